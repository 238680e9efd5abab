/-
  Contract of the document's Close of a line's message; both answer closeC.
-/
import Derived.Test.YtnapbmdkaldncaaCmB
namespace Go.Proofs.Ytnapbmdkaldncaa.Cc
open Go.RowKit Go.Proofs.Ytnapbmdkaldncaa.Bt Go.Proofs.Ytnapbmdkaldncaa.Mm Go.Proofs.Ytnapbmdkaldncaa.Fl Go.Proofs.Ytnapbmdkaldncaa.Lw Go.Proofs.Ytnapbmdkaldncaa.Hx Go.Proofs.Ytnapbmdkaldncaa.Mc Go.Proofs.Ytnapbmdkaldncaa.Tg Go.Proofs.Ytnapbmdkaldncaa.Oa Go.Proofs.Ytnapbmdkaldncaa.Rp
set_option linter.unusedSimpArgs false

theorem put_at (s : ByteArray) (v n : Nat) (w : World) (h : (⟨(putB v n).toArray⟩ : ByteArray) = s) (hn : 1 ≤ n) (hn8 : n ≤ 8) (hv : v < 2 ^ (8 * n)) (hv64 : v < 18446744073709551616) :
    Calls Try.prog 41 #[.int .u64 (v : Int), .int .i64 (n : Int)] w fun e w' => e = .returned (.string s) ∧ Below w.heap.size w w' := by
  rw [← h]; exact put_any v n w hn hn8 hv hv64
theorem nat_eq_t {a : Nat} (h : a = 0) : ((a : Int) == 0) = true := by simp [h]
theorem nat_eq_f {a : Nat} (h : a ≠ 0) : ((a : Int) == 0) = false := by simpa using h
set_option maxHeartbeats 2000000 in
theorem rclose_bad (b : Bool) (p c e : Nat) (g : ByteArray) (l : Nat) (w : World) (h : 7 < l ∨ p = 0 ∨ 7 < p ∨ e = 0 ∨ 8191 < e) :
    Calls Try.prog 17 #[cmV b p c e g, .int .u8 (l : Int)] w fun x w' => x = .returned (.tuple #[.string ⟨#[]⟩, .int .i64 4]) ∧ Below w.heap.size w w' := by
  have HB := Lib.hid ((Below.refl w.heap.size w).alloc (Nat.le_refl _) (.cells (cmC b p c e g) 49))
  by_cases h1 : 7 < l
  · have q1 := gt_t (a := l) (b := 7) (by omega)
    clear h h1
    go_enter Try.func17, Try.ntmps17
    go_wp2
    go_ret2
    exact ⟨rfl, HB.out⟩
  have q1 := gt_f (a := l) (b := 7) (by omega)
  by_cases h2 : p = 0
  · have q2 := nat_eq_t h2
    clear h h1 h2
    go_enter Try.func17, Try.ntmps17
    go_wp2
    go_ret2
    exact ⟨rfl, HB.out⟩
  have q2 := nat_eq_f h2
  by_cases h3 : 7 < p
  · have q3 := gt_t (a := p) (b := 7) (by omega)
    clear h h1 h2 h3
    go_enter Try.func17, Try.ntmps17
    go_wp2
    go_ret2
    exact ⟨rfl, HB.out⟩
  have q3 := gt_f (a := p) (b := 7) (by omega)
  by_cases h4 : e = 0
  · have q4 := nat_eq_t h4
    clear h h1 h2 h3 h4
    go_enter Try.func17, Try.ntmps17
    go_wp2
    go_ret2
    exact ⟨rfl, HB.out⟩
  have q4 := nat_eq_f h4
  have q5 := gt_t (a := e) (b := 8191) (by omega)
  clear h h1 h2 h3 h4
  go_enter Try.func17, Try.ntmps17
  go_wp2
  go_ret2
  exact ⟨rfl, HB.out⟩
set_option maxHeartbeats 1000000 in
theorem rclose_len (b : Bool) (p c e : Nat) (g : ByteArray) (l : Nat) (w : World) (h : ¬ (7 < l ∨ p = 0 ∨ 7 < p ∨ e = 0 ∨ 8191 < e)) (hg : g.size ≠ 48) :
    Calls Try.prog 17 #[cmV b p c e g, .int .u8 (l : Int)] w fun x w' => x = .returned (.tuple #[.string ⟨#[]⟩, .int .i64 3]) ∧ Below w.heap.size w w' := by
  have HB := Lib.hid ((Below.refl w.heap.size w).alloc (Nat.le_refl _) (.cells (cmC b p c e g) 49))
  have q1 := gt_f (a := l) (b := 7) (by omega)
  have q2 := nat_eq_f (a := p) (by omega)
  have q3 := gt_f (a := p) (b := 7) (by omega)
  have q4 := nat_eq_f (a := e) (by omega)
  have q5 := gt_f (a := e) (b := 8191) (by omega)
  have q6 : ((g.size : Int) != 48) = true := by simp; omega
  clear h hg
  go_enter Try.func17, Try.ntmps17
  go_wp2
  go_ret2
  exact ⟨rfl, HB.out⟩
set_option maxRecDepth 100000 in
set_option maxHeartbeats 4000000 in
theorem rclose_ok (b : Bool) (p c e : Nat) (g : ByteArray) (l : Nat) (f : Nat) (sC sE sZ : ByteArray) (bs : List UInt8) (r : Nat) (w : World) (h : ¬ (7 < l ∨ p = 0 ∨ 7 < p ∨ e = 0 ∨ 8191 < e)) (hc : c < 4294967296) (hg : g.size = 48) (hf : p + bitN b 128 = f)
    (hsC : (⟨(putB c 4).toArray⟩ : ByteArray) = sC) (hsE : (⟨(putB e 2).toArray⟩ : ByteArray) = sE) (hz : (⟨(noughts 16).toArray⟩ : ByteArray) = sZ) (hcl : closeO ⟨l, 0, 1, f, 70⟩ (sC ++ sE ++ g ++ sZ).data.toList = (bs, r)) :
    Calls Try.prog 17 #[cmV b p c e g, .int .u8 (l : Int)] w fun x w' => x = .returned (.tuple #[.string ⟨bs.toArray⟩, .int .i64 (r : Int)]) ∧ Below w.heap.size w w' := by
  have hz16 : sZ.size = 16 := by rw [← hz]; rfl
  have hz4 : sC.size = 4 := by rw [← hsC, size_mk, length_putB]
  have hz2 : sE.size = 2 := by rw [← hsE, size_mk, length_putB]
  have z1 : ¬ 9223372036854775807 < sC.size + sE.size := by omega
  have z2 : ¬ 9223372036854775807 < sC.size + sE.size + g.size := by omega
  have z3 : ¬ 9223372036854775807 < sC.size + sE.size + g.size + sZ.size := by omega
  have k2 : IntKind.u64.wrap (c : Int) = (c : Int) := IntWalk.u64_in _ ⟨by omega, by omega⟩
  have k3 : IntKind.u64.wrap (e : Int) = (e : Int) := IntWalk.u64_in _ ⟨by omega, by omega⟩
  have HC4 := Lib.hid (show c < 2 ^ (8 * 4) by simpa using hc)
  have HC64 := Lib.hid (show c < 18446744073709551616 by omega)
  have HE2 := Lib.hid (show e < 2 ^ (8 * 2) by simp; omega)
  have HE64 := Lib.hid (show e < 18446744073709551616 by omega)
  have HF2 := Lib.hid (show f < 256 by rw [← hf]; unfold bitN; split <;> omega)
  have q1 := gt_f (a := l) (b := 7) (by omega)
  have q2 := nat_eq_f (a := p) (by omega)
  have q3 := gt_f (a := p) (b := 7) (by omega)
  have q4 := nat_eq_f (a := e) (by omega)
  have q5 := gt_f (a := e) (b := 8191) (by omega)
  have q6 : ((g.size : Int) != 48) = false := by rw [hg]; rfl
  have k4 : IntKind.u8.wrap ((p : Int) + 128) = (p : Int) + 128 := IntWalk.u8_in _ ⟨by omega, by omega⟩
  have HSC := Lib.hid hsC
  have HSE := Lib.hid hsE
  have HSZ := Lib.hid hz
  have HCL := Lib.hid hcl
  have HFF := Lib.hid hf
  have HB := Lib.hid ((Below.refl w.heap.size w).alloc (Nat.le_refl _) (.cells (cmC b p c e g) 49))
  have K0 := Lib.hid (Rw5.fresh w 49 (.bool b) (.int .u8 (p : Int)) (.int .u32 (c : Int)) (.int .u16 (e : Int)) (.string g))
  clear hz16 hz4 hz2 hsC hsE hz hcl h hc hg hf
  go_enter Try.func17, Try.ntmps17
  go_upto_if 36 with (fail)
  generalize w.alloc (.cells (cmC b p c e g) 49) = w1 at HB K0 ⊢
  obtain ⟨g1, c0, c1, c2, c3, c4⟩ := K0.out
  go_cut [6] (fun s6 wx => s6 = .int .u8 (f : Nat) ∧ wx = w1)
  case first =>
    have HG := Lib.hid HFF.out
    cases b with
    | true =>
      have hf1 : (p : Int) + 128 = (f : Int) := by have := HFF.out; simp [bitN] at this; omega
      have HX := Lib.hid hf1; clear hf1
      go_wp2
      go_meet
      exact ⟨by rw [HX.out], rfl⟩
    | false =>
      have hf1 : (p : Int) = (f : Int) := by have := HFF.out; simp [bitN] at this; omega
      have HX := Lib.hid hf1; clear hf1
      go_wp2
      go_meet
      exact ⟨by rw [HX.out], rfl⟩
  case rest =>
  obtain ⟨rfl, rfl⟩ := hcut
  clear c0 c1 c2 c3 c4 g1
  go_upto_region 8 with (fail)
  obtain ⟨wa, hwa⟩ : ∃ wa, wa = wc.drew := ⟨_, rfl⟩
  have HBR := Lib.hid (show Below w.heap.size w wa by rw [hwa]; exact HB.out.drew)
  have KS := Lib.hid (sc_keeps w.heap.size b p c e g)
  refine wp_region_held_drew (S := Sc w.heap.size b p c e g) (by kernel_rfl) K0.out (fun hHeld => ?_)
  rw [← hwa] at hHeld ⊢
  have HWA := Lib.hid hwa
  clear hwa K0 HB
  refine wpAnyH_take (i := 0) (oi := _) (v := ?_) rfl (by kernel_rfl) (by kernel_rfl) (by kernel_rfl) (fun _ _ _ h => h) (Or.inl ⟨by rfl, ?_⟩) (by assumption) ?_
  rotate_left
  · intro wx hSx
    go_simp
    all_goals with_reducible rfl
  simp only [Act.put, List.setIfInBounds_toArray, List.set_cons_zero, List.set_cons_succ, List.getElem_toArray, List.getElem_cons_zero, List.getElem_cons_succ]
  refine wpAnyH_take (i := 1) (oi := _) (v := ?_) rfl (by kernel_rfl) (by kernel_rfl) (by kernel_rfl) (fun _ _ _ h => h) (Or.inl ⟨by rfl, ?_⟩) (by assumption) ?_
  rotate_left
  · intro wx hSx
    go_simp
    all_goals with_reducible rfl
  simp only [Act.put, List.setIfInBounds_toArray, List.set_cons_zero, List.set_cons_succ, List.getElem_toArray, List.getElem_cons_zero, List.getElem_cons_succ]
  refine wpAnyH_take (i := 2) (oi := _) (v := ?_) rfl (by kernel_rfl) (by kernel_rfl) (by kernel_rfl) (fun _ _ _ h => h) (Or.inl ⟨by rfl, ?_⟩) (by assumption) ?_
  rotate_left
  · intro wx hSx
    go_simp
    all_goals with_reducible rfl
  simp only [Act.put, List.setIfInBounds_toArray, List.set_cons_zero, List.set_cons_succ, List.getElem_toArray, List.getElem_cons_zero, List.getElem_cons_succ]
  refine wpAnyH_take (i := 3) (oi := _) (v := ?_) rfl (by kernel_rfl) (by kernel_rfl) (by kernel_rfl) (fun _ _ _ h => h) (Or.inl ⟨by rfl, ?_⟩) (by assumption) ?_
  rotate_left
  · intro wx hSx
    go_simp
    all_goals with_reducible rfl
  simp only [Act.put, List.setIfInBounds_toArray, List.set_cons_zero, List.set_cons_succ, List.getElem_toArray, List.getElem_cons_zero, List.getElem_cons_succ]
  refine wpAnyH_take (i := 4) (oi := _) (v := ?_) rfl (by kernel_rfl) (by kernel_rfl) (by kernel_rfl) (fun _ _ _ h => h) (Or.inl ⟨by rfl, ?_⟩) (by assumption) ?_
  rotate_left
  · intro wx hSx
    obtain ⟨_, d0, d1, d2, d3, d4⟩ := hSx; go_simp
    all_goals with_reducible rfl
  simp only [Act.put, List.setIfInBounds_toArray, List.set_cons_zero, List.set_cons_succ, List.getElem_toArray, List.getElem_cons_zero, List.getElem_cons_succ]
  refine wpAnyH_take (i := 5) (oi := _) (v := ?_) rfl (by kernel_rfl) (by kernel_rfl) (by kernel_rfl) (fun _ _ _ h => h) (Or.inl ⟨by rfl, ?_⟩) (by assumption) ?_
  rotate_left
  · intro wx hSx
    go_simp
    all_goals with_reducible rfl
  simp only [Act.put, List.setIfInBounds_toArray, List.set_cons_zero, List.set_cons_succ, List.getElem_toArray, List.getElem_cons_zero, List.getElem_cons_succ]
  refine wpAnyH_take (i := 7) (oi := _) (v := ?_) rfl (by kernel_rfl) (by kernel_rfl) (by kernel_rfl) (fun _ _ _ h => h) (Or.inl ⟨by rfl, ?_⟩) (by assumption) ?_
  rotate_left
  · intro wx hSx
    go_simp
    all_goals with_reducible rfl
  simp only [Act.put, List.setIfInBounds_toArray, List.set_cons_zero, List.set_cons_succ, List.getElem_toArray, List.getElem_cons_zero, List.getElem_cons_succ]
  refine wpAnyH_take (i := 8) (oi := _) (v := ?_) rfl (by kernel_rfl) (by kernel_rfl) (by kernel_rfl) (fun _ _ _ h => h) (Or.inl ⟨by rfl, ?_⟩) (by assumption) ?_
  rotate_left
  · intro wx hSx
    obtain ⟨_, d0, d1, d2, d3, d4⟩ := hSx; go_simp
    all_goals with_reducible rfl
  simp only [Act.put, List.setIfInBounds_toArray, List.set_cons_zero, List.set_cons_succ, List.getElem_toArray, List.getElem_cons_zero, List.getElem_cons_succ]
  refine wpAnyH_take (i := 9) (oi := _) (v := ?_) rfl (by kernel_rfl) (by kernel_rfl) (by kernel_rfl) (fun _ _ _ h => h) (Or.inl ⟨by rfl, ?_⟩) (by assumption) ?_
  rotate_left
  · intro wx hSx
    go_simp
    all_goals with_reducible rfl
  simp only [Act.put, List.setIfInBounds_toArray, List.set_cons_zero, List.set_cons_succ, List.getElem_toArray, List.getElem_cons_zero, List.getElem_cons_succ]
  refine wpAnyH_take (i := 12) (oi := _) (v := ?_) rfl (by kernel_rfl) (by kernel_rfl) (by kernel_rfl) (fun _ _ _ h => h) (Or.inl ⟨by rfl, ?_⟩) (by assumption) ?_
  rotate_left
  · intro wx hSx
    go_simp
    all_goals with_reducible rfl
  simp only [Act.put, List.setIfInBounds_toArray, List.set_cons_zero, List.set_cons_succ, List.getElem_toArray, List.getElem_cons_zero, List.getElem_cons_succ]
  refine wpAnyH_take (i := 13) (oi := _) (v := ?_) rfl (by kernel_rfl) (by kernel_rfl) (by kernel_rfl) (fun _ _ _ h => h) (Or.inl ⟨by rfl, ?_⟩) (by assumption) ?_
  rotate_left
  · intro wx hSx
    obtain ⟨_, d0, d1, d2, d3, d4⟩ := hSx; go_simp
    all_goals with_reducible rfl
  simp only [Act.put, List.setIfInBounds_toArray, List.set_cons_zero, List.set_cons_succ, List.getElem_toArray, List.getElem_cons_zero, List.getElem_cons_succ]
  refine wpAnyH_ready (rs := [6, 15]) (by kernel_rfl) (by simp) ?_
  refine AllReadyH.cons (o := _) rfl (fun K hK => ?_) ?_
  · go_simp
    refine (put_at sC c 4 _ HSC.out (by omega) (by omega) HC4.out HC64.out).mono ?_
    rintro x wr1 ⟨rfl, hbc⟩
    go_wp2_with fail
    refine Rg.st_call hK hHeld KS.out HBR.out hbc ?_
    clear hK K
    intro hHeld hbr
    have HBR := Lib.hid hbr
    clear hbr hbc
    try simp only [List.setIfInBounds_toArray, List.set_cons_zero, List.set_cons_succ]
    refine wpAnyH_ready (rs := [10, 15]) (by kernel_rfl) (by simp) ?_
    refine AllReadyH.cons (o := _) rfl (fun K hK => ?_) ?_
    · go_simp
      refine (put_at sE e 2 _ HSE.out (by omega) (by omega) HE2.out HE64.out).mono ?_
      rintro x wr2 ⟨rfl, hbc⟩
      go_wp2_with fail
      refine Rg.st_call hK hHeld KS.out HBR.out hbc ?_
      clear hK K
      intro hHeld hbr
      have HBR := Lib.hid hbr
      clear hbr hbc
      try simp only [List.setIfInBounds_toArray, List.set_cons_zero, List.set_cons_succ]
      refine wpAnyH_take (i := 11) (oi := _) (v := ?_) rfl (by kernel_rfl) (by kernel_rfl) (by kernel_rfl) (fun _ _ _ h => h) (Or.inl ⟨by rfl, ?_⟩) (by assumption) ?_
      rotate_left
      · intro wx hSx
        go_simp
        all_goals with_reducible rfl
      simp only [Act.put, List.setIfInBounds_toArray, List.set_cons_zero, List.set_cons_succ, List.getElem_toArray, List.getElem_cons_zero, List.getElem_cons_succ]
      refine wpAnyH_take (i := 14) (oi := _) (v := ?_) rfl (by kernel_rfl) (by kernel_rfl) (by kernel_rfl) (fun _ _ _ h => h) (Or.inl ⟨by rfl, ?_⟩) (by assumption) ?_
      rotate_left
      · intro wx hSx
        go_simp
        all_goals with_reducible rfl
      simp only [Act.put, List.setIfInBounds_toArray, List.set_cons_zero, List.set_cons_succ, List.getElem_toArray, List.getElem_cons_zero, List.getElem_cons_succ]
      refine wpAnyH_ready (rs := [15]) (by kernel_rfl) (by simp) ?_
      refine AllReadyH.cons (o := _) rfl (fun K hK => ?_) ?_
      · have hmk := make16 wr2
        go_simp
        refine Rg.st_alloc hK hHeld KS.out HBR.out ?_
        clear hK K
        intro wr3 hlt hHeld ks hbr
        have HBR := Lib.hid hbr
        have KS := Lib.hid ks
        clear hbr ks hlt
        try simp only [List.setIfInBounds_toArray, List.set_cons_zero, List.set_cons_succ]
        refine wpAnyH_take (i := 16) (oi := _) (v := ?_) rfl (by kernel_rfl) (by kernel_rfl) (by kernel_rfl) (fun _ _ _ h => h) (Or.inl ⟨by rfl, ?_⟩) (by assumption) ?_
        rotate_left
        · intro wx hSx
          have hcv := Rg.back_blk (P := Try.prog) (src := 62) (dst := 9) sZ (noughts 16) 16 16 hSx.2 rfl rfl HSZ.out Try.underlying62 Try.underlying5 Try.underlying9; go_simp
          all_goals with_reducible rfl
        simp only [Act.put, List.setIfInBounds_toArray, List.set_cons_zero, List.set_cons_succ, List.getElem_toArray, List.getElem_cons_zero, List.getElem_cons_succ]
        refine wpAnyH_take (i := 17) (oi := _) (v := ?_) rfl (by kernel_rfl) (by kernel_rfl) (by kernel_rfl) (fun _ _ _ h => h) (Or.inl ⟨by rfl, ?_⟩) (by assumption) ?_
        rotate_left
        · intro wx hSx
          go_simp
          all_goals with_reducible rfl
        simp only [Act.put, List.setIfInBounds_toArray, List.set_cons_zero, List.set_cons_succ, List.getElem_toArray, List.getElem_cons_zero, List.getElem_cons_succ]
        refine wpAnyH_ready (rs := [18]) (by kernel_rfl) (by simp) ?_
        refine AllReadyH.cons (o := _) rfl (fun K hK => ?_) ?_
        · go_simp
          refine (Oa.rclose_at l 0 1 f 70 _ _ HCL.out (by omega) HF2.out (by omega)).mono ?_
          rintro x wr4 ⟨rfl, hbc⟩
          go_wp2_with fail
          refine Rg.st_call hK hHeld KS.out HBR.out hbc ?_
          clear hK K
          intro hHeld hbr
          have HBR := Lib.hid hbr
          clear hbr hbc
          try simp only [List.setIfInBounds_toArray, List.set_cons_zero, List.set_cons_succ]
          refine wpAnyH_take (i := 19) (oi := _) (v := ?_) rfl (by kernel_rfl) (by kernel_rfl) (by kernel_rfl) (fun _ _ _ h => h) (Or.inl ⟨by rfl, ?_⟩) (by assumption) ?_
          rotate_left
          · intro wx hSx
            go_simp
            all_goals with_reducible rfl
          simp only [Act.put, List.setIfInBounds_toArray, List.set_cons_zero, List.set_cons_succ, List.getElem_toArray, List.getElem_cons_zero, List.getElem_cons_succ]
          refine wpAnyH_take (i := 20) (oi := _) (v := ?_) rfl (by kernel_rfl) (by kernel_rfl) (by kernel_rfl) (fun _ _ _ h => h) (Or.inl ⟨by rfl, ?_⟩) (by assumption) ?_
          rotate_left
          · intro wx hSx
            go_simp
            all_goals with_reducible rfl
          simp only [Act.put, List.setIfInBounds_toArray, List.set_cons_zero, List.set_cons_succ, List.getElem_toArray, List.getElem_cons_zero, List.getElem_cons_succ]
          refine wpAnyH_take (i := 21) (oi := _) (v := ?_) rfl (by kernel_rfl) (by kernel_rfl) (by kernel_rfl) (fun _ _ _ h => h) (Or.inl ⟨by rfl, ?_⟩) (by assumption) ?_
          rotate_left
          · intro wx hSx
            go_simp
            all_goals with_reducible rfl
          simp only [Act.put, List.setIfInBounds_toArray, List.set_cons_zero, List.set_cons_succ, List.getElem_toArray, List.getElem_cons_zero, List.getElem_cons_succ]
          refine wpAnyH_take (i := 22) (oi := _) (v := ?_) rfl (by kernel_rfl) (by kernel_rfl) (by kernel_rfl) (fun _ _ _ h => h) (Or.inl ⟨by rfl, ?_⟩) (by assumption) ?_
          rotate_left
          · intro wx hSx
            go_simp
            all_goals with_reducible rfl
          simp only [Act.put, List.setIfInBounds_toArray, List.set_cons_zero, List.set_cons_succ, List.getElem_toArray, List.getElem_cons_zero, List.getElem_cons_succ]
          refine wpAnyH_done (by kernel_rfl) ?_ _
          go_wp2
          go_ret2
          exact ⟨rfl, HBR.out⟩
        exact AllReadyH.nil
      exact AllReadyH.nil
    refine AllReadyH.cons (o := _) rfl (fun K hK => ?_) ?_
    · have hmk := make16 wr1
      go_simp
      refine Rg.st_alloc hK hHeld KS.out HBR.out ?_
      clear hK K
      intro wr5 hlt hHeld ks hbr
      have HBR := Lib.hid hbr
      have KS := Lib.hid ks
      clear hbr ks hlt
      try simp only [List.setIfInBounds_toArray, List.set_cons_zero, List.set_cons_succ]
      refine wpAnyH_take (i := 16) (oi := _) (v := ?_) rfl (by kernel_rfl) (by kernel_rfl) (by kernel_rfl) (fun _ _ _ h => h) (Or.inl ⟨by rfl, ?_⟩) (by assumption) ?_
      rotate_left
      · intro wx hSx
        have hcv := Rg.back_blk (P := Try.prog) (src := 62) (dst := 9) sZ (noughts 16) 16 16 hSx.2 rfl rfl HSZ.out Try.underlying62 Try.underlying5 Try.underlying9; go_simp
        all_goals with_reducible rfl
      simp only [Act.put, List.setIfInBounds_toArray, List.set_cons_zero, List.set_cons_succ, List.getElem_toArray, List.getElem_cons_zero, List.getElem_cons_succ]
      refine wpAnyH_ready (rs := [10]) (by kernel_rfl) (by simp) ?_
      refine AllReadyH.cons (o := _) rfl (fun K hK => ?_) ?_
      · go_simp
        refine (put_at sE e 2 _ HSE.out (by omega) (by omega) HE2.out HE64.out).mono ?_
        rintro x wr6 ⟨rfl, hbc⟩
        go_wp2_with fail
        refine Rg.st_call hK hHeld KS.out HBR.out hbc ?_
        clear hK K
        intro hHeld hbr
        have HBR := Lib.hid hbr
        clear hbr hbc
        try simp only [List.setIfInBounds_toArray, List.set_cons_zero, List.set_cons_succ]
        refine wpAnyH_take (i := 11) (oi := _) (v := ?_) rfl (by kernel_rfl) (by kernel_rfl) (by kernel_rfl) (fun _ _ _ h => h) (Or.inl ⟨by rfl, ?_⟩) (by assumption) ?_
        rotate_left
        · intro wx hSx
          go_simp
          all_goals with_reducible rfl
        simp only [Act.put, List.setIfInBounds_toArray, List.set_cons_zero, List.set_cons_succ, List.getElem_toArray, List.getElem_cons_zero, List.getElem_cons_succ]
        refine wpAnyH_take (i := 14) (oi := _) (v := ?_) rfl (by kernel_rfl) (by kernel_rfl) (by kernel_rfl) (fun _ _ _ h => h) (Or.inl ⟨by rfl, ?_⟩) (by assumption) ?_
        rotate_left
        · intro wx hSx
          go_simp
          all_goals with_reducible rfl
        simp only [Act.put, List.setIfInBounds_toArray, List.set_cons_zero, List.set_cons_succ, List.getElem_toArray, List.getElem_cons_zero, List.getElem_cons_succ]
        refine wpAnyH_take (i := 17) (oi := _) (v := ?_) rfl (by kernel_rfl) (by kernel_rfl) (by kernel_rfl) (fun _ _ _ h => h) (Or.inl ⟨by rfl, ?_⟩) (by assumption) ?_
        rotate_left
        · intro wx hSx
          go_simp
          all_goals with_reducible rfl
        simp only [Act.put, List.setIfInBounds_toArray, List.set_cons_zero, List.set_cons_succ, List.getElem_toArray, List.getElem_cons_zero, List.getElem_cons_succ]
        refine wpAnyH_ready (rs := [18]) (by kernel_rfl) (by simp) ?_
        refine AllReadyH.cons (o := _) rfl (fun K hK => ?_) ?_
        · go_simp
          refine (Oa.rclose_at l 0 1 f 70 _ _ HCL.out (by omega) HF2.out (by omega)).mono ?_
          rintro x wr7 ⟨rfl, hbc⟩
          go_wp2_with fail
          refine Rg.st_call hK hHeld KS.out HBR.out hbc ?_
          clear hK K
          intro hHeld hbr
          have HBR := Lib.hid hbr
          clear hbr hbc
          try simp only [List.setIfInBounds_toArray, List.set_cons_zero, List.set_cons_succ]
          refine wpAnyH_take (i := 19) (oi := _) (v := ?_) rfl (by kernel_rfl) (by kernel_rfl) (by kernel_rfl) (fun _ _ _ h => h) (Or.inl ⟨by rfl, ?_⟩) (by assumption) ?_
          rotate_left
          · intro wx hSx
            go_simp
            all_goals with_reducible rfl
          simp only [Act.put, List.setIfInBounds_toArray, List.set_cons_zero, List.set_cons_succ, List.getElem_toArray, List.getElem_cons_zero, List.getElem_cons_succ]
          refine wpAnyH_take (i := 20) (oi := _) (v := ?_) rfl (by kernel_rfl) (by kernel_rfl) (by kernel_rfl) (fun _ _ _ h => h) (Or.inl ⟨by rfl, ?_⟩) (by assumption) ?_
          rotate_left
          · intro wx hSx
            go_simp
            all_goals with_reducible rfl
          simp only [Act.put, List.setIfInBounds_toArray, List.set_cons_zero, List.set_cons_succ, List.getElem_toArray, List.getElem_cons_zero, List.getElem_cons_succ]
          refine wpAnyH_take (i := 21) (oi := _) (v := ?_) rfl (by kernel_rfl) (by kernel_rfl) (by kernel_rfl) (fun _ _ _ h => h) (Or.inl ⟨by rfl, ?_⟩) (by assumption) ?_
          rotate_left
          · intro wx hSx
            go_simp
            all_goals with_reducible rfl
          simp only [Act.put, List.setIfInBounds_toArray, List.set_cons_zero, List.set_cons_succ, List.getElem_toArray, List.getElem_cons_zero, List.getElem_cons_succ]
          refine wpAnyH_take (i := 22) (oi := _) (v := ?_) rfl (by kernel_rfl) (by kernel_rfl) (by kernel_rfl) (fun _ _ _ h => h) (Or.inl ⟨by rfl, ?_⟩) (by assumption) ?_
          rotate_left
          · intro wx hSx
            go_simp
            all_goals with_reducible rfl
          simp only [Act.put, List.setIfInBounds_toArray, List.set_cons_zero, List.set_cons_succ, List.getElem_toArray, List.getElem_cons_zero, List.getElem_cons_succ]
          refine wpAnyH_done (by kernel_rfl) ?_ _
          go_wp2
          go_ret2
          exact ⟨rfl, HBR.out⟩
        exact AllReadyH.nil
      exact AllReadyH.nil
    exact AllReadyH.nil
  refine AllReadyH.cons (o := _) rfl (fun K hK => ?_) ?_
  · have hmk := make16 wa
    go_simp
    refine Rg.st_alloc hK hHeld KS.out HBR.out ?_
    clear hK K
    intro wr8 hlt hHeld ks hbr
    have HBR := Lib.hid hbr
    have KS := Lib.hid ks
    clear hbr ks hlt
    try simp only [List.setIfInBounds_toArray, List.set_cons_zero, List.set_cons_succ]
    refine wpAnyH_take (i := 16) (oi := _) (v := ?_) rfl (by kernel_rfl) (by kernel_rfl) (by kernel_rfl) (fun _ _ _ h => h) (Or.inl ⟨by rfl, ?_⟩) (by assumption) ?_
    rotate_left
    · intro wx hSx
      have hcv := Rg.back_blk (P := Try.prog) (src := 62) (dst := 9) sZ (noughts 16) 16 16 hSx.2 rfl rfl HSZ.out Try.underlying62 Try.underlying5 Try.underlying9; go_simp
      all_goals with_reducible rfl
    simp only [Act.put, List.setIfInBounds_toArray, List.set_cons_zero, List.set_cons_succ, List.getElem_toArray, List.getElem_cons_zero, List.getElem_cons_succ]
    refine wpAnyH_ready (rs := [6]) (by kernel_rfl) (by simp) ?_
    refine AllReadyH.cons (o := _) rfl (fun K hK => ?_) ?_
    · go_simp
      refine (put_at sC c 4 _ HSC.out (by omega) (by omega) HC4.out HC64.out).mono ?_
      rintro x wr9 ⟨rfl, hbc⟩
      go_wp2_with fail
      refine Rg.st_call hK hHeld KS.out HBR.out hbc ?_
      clear hK K
      intro hHeld hbr
      have HBR := Lib.hid hbr
      clear hbr hbc
      try simp only [List.setIfInBounds_toArray, List.set_cons_zero, List.set_cons_succ]
      refine wpAnyH_ready (rs := [10]) (by kernel_rfl) (by simp) ?_
      refine AllReadyH.cons (o := _) rfl (fun K hK => ?_) ?_
      · go_simp
        refine (put_at sE e 2 _ HSE.out (by omega) (by omega) HE2.out HE64.out).mono ?_
        rintro x wr10 ⟨rfl, hbc⟩
        go_wp2_with fail
        refine Rg.st_call hK hHeld KS.out HBR.out hbc ?_
        clear hK K
        intro hHeld hbr
        have HBR := Lib.hid hbr
        clear hbr hbc
        try simp only [List.setIfInBounds_toArray, List.set_cons_zero, List.set_cons_succ]
        refine wpAnyH_take (i := 11) (oi := _) (v := ?_) rfl (by kernel_rfl) (by kernel_rfl) (by kernel_rfl) (fun _ _ _ h => h) (Or.inl ⟨by rfl, ?_⟩) (by assumption) ?_
        rotate_left
        · intro wx hSx
          go_simp
          all_goals with_reducible rfl
        simp only [Act.put, List.setIfInBounds_toArray, List.set_cons_zero, List.set_cons_succ, List.getElem_toArray, List.getElem_cons_zero, List.getElem_cons_succ]
        refine wpAnyH_take (i := 14) (oi := _) (v := ?_) rfl (by kernel_rfl) (by kernel_rfl) (by kernel_rfl) (fun _ _ _ h => h) (Or.inl ⟨by rfl, ?_⟩) (by assumption) ?_
        rotate_left
        · intro wx hSx
          go_simp
          all_goals with_reducible rfl
        simp only [Act.put, List.setIfInBounds_toArray, List.set_cons_zero, List.set_cons_succ, List.getElem_toArray, List.getElem_cons_zero, List.getElem_cons_succ]
        refine wpAnyH_take (i := 17) (oi := _) (v := ?_) rfl (by kernel_rfl) (by kernel_rfl) (by kernel_rfl) (fun _ _ _ h => h) (Or.inl ⟨by rfl, ?_⟩) (by assumption) ?_
        rotate_left
        · intro wx hSx
          go_simp
          all_goals with_reducible rfl
        simp only [Act.put, List.setIfInBounds_toArray, List.set_cons_zero, List.set_cons_succ, List.getElem_toArray, List.getElem_cons_zero, List.getElem_cons_succ]
        refine wpAnyH_ready (rs := [18]) (by kernel_rfl) (by simp) ?_
        refine AllReadyH.cons (o := _) rfl (fun K hK => ?_) ?_
        · go_simp
          refine (Oa.rclose_at l 0 1 f 70 _ _ HCL.out (by omega) HF2.out (by omega)).mono ?_
          rintro x wr11 ⟨rfl, hbc⟩
          go_wp2_with fail
          refine Rg.st_call hK hHeld KS.out HBR.out hbc ?_
          clear hK K
          intro hHeld hbr
          have HBR := Lib.hid hbr
          clear hbr hbc
          try simp only [List.setIfInBounds_toArray, List.set_cons_zero, List.set_cons_succ]
          refine wpAnyH_take (i := 19) (oi := _) (v := ?_) rfl (by kernel_rfl) (by kernel_rfl) (by kernel_rfl) (fun _ _ _ h => h) (Or.inl ⟨by rfl, ?_⟩) (by assumption) ?_
          rotate_left
          · intro wx hSx
            go_simp
            all_goals with_reducible rfl
          simp only [Act.put, List.setIfInBounds_toArray, List.set_cons_zero, List.set_cons_succ, List.getElem_toArray, List.getElem_cons_zero, List.getElem_cons_succ]
          refine wpAnyH_take (i := 20) (oi := _) (v := ?_) rfl (by kernel_rfl) (by kernel_rfl) (by kernel_rfl) (fun _ _ _ h => h) (Or.inl ⟨by rfl, ?_⟩) (by assumption) ?_
          rotate_left
          · intro wx hSx
            go_simp
            all_goals with_reducible rfl
          simp only [Act.put, List.setIfInBounds_toArray, List.set_cons_zero, List.set_cons_succ, List.getElem_toArray, List.getElem_cons_zero, List.getElem_cons_succ]
          refine wpAnyH_take (i := 21) (oi := _) (v := ?_) rfl (by kernel_rfl) (by kernel_rfl) (by kernel_rfl) (fun _ _ _ h => h) (Or.inl ⟨by rfl, ?_⟩) (by assumption) ?_
          rotate_left
          · intro wx hSx
            go_simp
            all_goals with_reducible rfl
          simp only [Act.put, List.setIfInBounds_toArray, List.set_cons_zero, List.set_cons_succ, List.getElem_toArray, List.getElem_cons_zero, List.getElem_cons_succ]
          refine wpAnyH_take (i := 22) (oi := _) (v := ?_) rfl (by kernel_rfl) (by kernel_rfl) (by kernel_rfl) (fun _ _ _ h => h) (Or.inl ⟨by rfl, ?_⟩) (by assumption) ?_
          rotate_left
          · intro wx hSx
            go_simp
            all_goals with_reducible rfl
          simp only [Act.put, List.setIfInBounds_toArray, List.set_cons_zero, List.set_cons_succ, List.getElem_toArray, List.getElem_cons_zero, List.getElem_cons_succ]
          refine wpAnyH_done (by kernel_rfl) ?_ _
          go_wp2
          go_ret2
          exact ⟨rfl, HBR.out⟩
        exact AllReadyH.nil
      exact AllReadyH.nil
    exact AllReadyH.nil
  exact AllReadyH.nil
theorem close_at {bs : List UInt8} {r : Nat} (b : Bool) (p c e : Nat) (g : ByteArray) (l : Nat) (w : World) (h : closeC ⟨b, p, c, e, g.data.toList⟩ l = (bs, r)) (hc : c < 4294967296) :
    Calls Try.prog 16 #[cmV b p c e g, .int .u8 (l : Int)] w fun x w' => x = .returned (.tuple #[.string ⟨bs.toArray⟩, .int .i64 (r : Int)]) ∧ Below w.heap.size w w' := by
  unfold closeC at h
  by_cases h1 : badC ⟨b, p, c, e, g.data.toList⟩ l
  · rw [if_pos h1] at h
    simp only [Prod.mk.injEq] at h
    obtain ⟨rfl, rfl⟩ := h
    exact close_wrong b p c e g l 4 w (if_pos h1) (by omega)
  rw [if_neg h1] at h
  by_cases h2 : g.data.toList.length ≠ 48
  · rw [if_pos h2] at h
    simp only [Prod.mk.injEq] at h
    obtain ⟨rfl, rfl⟩ := h
    refine close_wrong b p c e g l 3 w ?_ (by omega)
    unfold wrongC
    rw [if_neg h1, if_pos h2]
  rw [if_neg h2] at h
  have h3 : wrongC ⟨b, p, c, e, g.data.toList⟩ l = 0 := by unfold wrongC; rw [if_neg h1, if_neg h2]
  unfold badC at h1
  simp only at h1
  have hg : g.size = 48 := by rw [← size_list]; simpa using h2
  have hf : p + bitN b 128 < 256 := by unfold bitN; split <;> omega
  refine close_ok b p c e g l (p + bitN b 128) ⟨#[UInt8.ofNat (p + bitN b 128)]⟩ ⟨(putB c 4 ++ putB e 2).toArray⟩ _ bs r w h3 (by omega) hc (by omega) hg (pack_flags b p (by omega)) (pack_cont c e hc (by omega)) (show 0 < 1 by omega) (ofNat_toNat _ hf) hf (by rw [size_mk, List.length_append, length_putB, length_putB]) rfl ?_
  rw [← h]
  congr 1
  simp [content]
theorem rclose_at {bs : List UInt8} {r : Nat} (b : Bool) (p c e : Nat) (g : ByteArray) (l : Nat) (w : World) (h : closeC ⟨b, p, c, e, g.data.toList⟩ l = (bs, r)) (hc : c < 4294967296) :
    Calls Try.prog 17 #[cmV b p c e g, .int .u8 (l : Int)] w fun x w' => x = .returned (.tuple #[.string ⟨bs.toArray⟩, .int .i64 (r : Int)]) ∧ Below w.heap.size w w' := by
  unfold closeC at h
  by_cases h1 : badC ⟨b, p, c, e, g.data.toList⟩ l
  · rw [if_pos h1] at h
    simp only [Prod.mk.injEq] at h
    obtain ⟨rfl, rfl⟩ := h
    exact rclose_bad b p c e g l w h1
  rw [if_neg h1] at h
  unfold badC at h1
  simp only at h1
  by_cases h2 : g.data.toList.length ≠ 48
  · rw [if_pos h2] at h
    simp only [Prod.mk.injEq] at h
    obtain ⟨rfl, rfl⟩ := h
    exact rclose_len b p c e g l w h1 (by rw [← size_list]; exact h2)
  rw [if_neg h2] at h
  have hg : g.size = 48 := by rw [← size_list]; simpa using h2
  refine rclose_ok b p c e g l (p + bitN b 128) _ _ _ bs r w h1 hc hg rfl rfl rfl rfl ?_
  rw [← h]
  congr 1
  simp [content]
end Go.Proofs.Ytnapbmdkaldncaa.Cc
