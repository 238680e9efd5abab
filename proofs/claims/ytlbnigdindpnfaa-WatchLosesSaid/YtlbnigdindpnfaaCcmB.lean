/-
  Contract of the document's Close of a line's message; both answer closeC.
  Contract of ccm's Open.
-/
import Derived.Test.YtlbnigdindpnfaaCcmA
import Derived.Test.YtlbnigdindpnfaaRapB
namespace Go.Proofs.Ytlbnigdindpnfaa.Cc
open Go.RowKit Go.Proofs.Ytlbnigdindpnfaa.Bt Go.Proofs.Ytlbnigdindpnfaa.Mm Go.Proofs.Ytlbnigdindpnfaa.Fl Go.Proofs.Ytlbnigdindpnfaa.Lw Go.Proofs.Ytlbnigdindpnfaa.Hx Go.Proofs.Ytlbnigdindpnfaa.Mc Go.Proofs.Ytlbnigdindpnfaa.Tg Go.Proofs.Ytlbnigdindpnfaa.Oa Go.Proofs.Ytlbnigdindpnfaa.Rp
set_option linter.unusedSimpArgs false

theorem put_at (s : ByteArray) (v n : Nat) (w : World) (h : (⟨(putB v n).toArray⟩ : ByteArray) = s) (hn : 1 ≤ n) (hn8 : n ≤ 8) (hv : v < 2 ^ (8 * n)) (hv64 : v < 18446744073709551616) :
    Calls Try.prog 40 #[.int .u64 (v : Int), .int .i64 (n : Int)] w fun e w' => e = .returned (.string s) ∧ Below w.heap.size w w' := by
  rw [← h]; exact put_any v n w hn hn8 hv hv64
theorem nat_eq_t {a : Nat} (h : a = 0) : ((a : Int) == 0) = true := by simp [h]
theorem nat_eq_f {a : Nat} (h : a ≠ 0) : ((a : Int) == 0) = false := by simpa using h
set_option maxHeartbeats 2000000 in
theorem rclose_bad (b : Bool) (p c e : Nat) (g : ByteArray) (l : Nat) (w : World) (h : 7 < l ∨ p = 0 ∨ 7 < p ∨ e = 0 ∨ 8191 < e) :
    Calls Try.prog 30 #[cmV b p c e g, .int .u8 (l : Int)] w fun x w' => x = .returned (.tuple #[.string ⟨#[]⟩, .int .i64 4]) ∧ Below w.heap.size w w' := by
  have HB := Lib.hid ((Below.refl w.heap.size w).alloc (Nat.le_refl _) (.cells (cmC b p c e g) 57))
  by_cases h1 : 7 < l
  · have q1 := gt_t (a := l) (b := 7) (by omega)
    clear h h1
    go_enter Try.func30, Try.ntmps30
    go_wp2
    go_ret2
    exact ⟨rfl, HB.out⟩
  have q1 := gt_f (a := l) (b := 7) (by omega)
  by_cases h2 : p = 0
  · have q2 := nat_eq_t h2
    clear h h1 h2
    go_enter Try.func30, Try.ntmps30
    go_wp2
    go_ret2
    exact ⟨rfl, HB.out⟩
  have q2 := nat_eq_f h2
  by_cases h3 : 7 < p
  · have q3 := gt_t (a := p) (b := 7) (by omega)
    clear h h1 h2 h3
    go_enter Try.func30, Try.ntmps30
    go_wp2
    go_ret2
    exact ⟨rfl, HB.out⟩
  have q3 := gt_f (a := p) (b := 7) (by omega)
  by_cases h4 : e = 0
  · have q4 := nat_eq_t h4
    clear h h1 h2 h3 h4
    go_enter Try.func30, Try.ntmps30
    go_wp2
    go_ret2
    exact ⟨rfl, HB.out⟩
  have q4 := nat_eq_f h4
  have q5 := gt_t (a := e) (b := 8191) (by omega)
  clear h h1 h2 h3 h4
  go_enter Try.func30, Try.ntmps30
  go_wp2
  go_ret2
  exact ⟨rfl, HB.out⟩
set_option maxHeartbeats 1000000 in
theorem rclose_len (b : Bool) (p c e : Nat) (g : ByteArray) (l : Nat) (w : World) (h : ¬ (7 < l ∨ p = 0 ∨ 7 < p ∨ e = 0 ∨ 8191 < e)) (hg : g.size ≠ 48) :
    Calls Try.prog 30 #[cmV b p c e g, .int .u8 (l : Int)] w fun x w' => x = .returned (.tuple #[.string ⟨#[]⟩, .int .i64 3]) ∧ Below w.heap.size w w' := by
  have HB := Lib.hid ((Below.refl w.heap.size w).alloc (Nat.le_refl _) (.cells (cmC b p c e g) 57))
  have q1 := gt_f (a := l) (b := 7) (by omega)
  have q2 := nat_eq_f (a := p) (by omega)
  have q3 := gt_f (a := p) (b := 7) (by omega)
  have q4 := nat_eq_f (a := e) (by omega)
  have q5 := gt_f (a := e) (b := 8191) (by omega)
  have q6 : ((g.size : Int) != 48) = true := by simp; omega
  clear h hg
  go_enter Try.func30, Try.ntmps30
  go_wp2
  go_ret2
  exact ⟨rfl, HB.out⟩
set_option maxRecDepth 100000 in
set_option maxHeartbeats 4000000 in
theorem rclose_ok (b : Bool) (p c e : Nat) (g : ByteArray) (l : Nat) (f : Nat) (sC sE sZ : ByteArray) (bs : List UInt8) (r : Nat) (w : World) (h : ¬ (7 < l ∨ p = 0 ∨ 7 < p ∨ e = 0 ∨ 8191 < e)) (hc : c < 4294967296) (hg : g.size = 48) (hf : p + bitN b 128 = f)
    (hsC : (⟨(putB c 4).toArray⟩ : ByteArray) = sC) (hsE : (⟨(putB e 2).toArray⟩ : ByteArray) = sE) (hz : (⟨(noughts 16).toArray⟩ : ByteArray) = sZ) (hcl : closeO ⟨l, 0, 1, f, 70⟩ (sC ++ sE ++ g ++ sZ).data.toList = (bs, r)) :
    Calls Try.prog 30 #[cmV b p c e g, .int .u8 (l : Int)] w fun x w' => x = .returned (.tuple #[.string ⟨bs.toArray⟩, .int .i64 (r : Int)]) ∧ Below w.heap.size w w' := by
  have hz16 : sZ.size = 16 := by rw [← hz]; rfl
  have hz4 : sC.size = 4 := by rw [← hsC, size_mk, length_putB]
  have hz2 : sE.size = 2 := by rw [← hsE, size_mk, length_putB]
  have z1 : ¬ 9223372036854775807 < sC.size + sE.size := by omega
  have z2 : ¬ 9223372036854775807 < sC.size + sE.size + g.size := by omega
  have z3 : ¬ 9223372036854775807 < sC.size + sE.size + g.size + sZ.size := by omega
  have k2 : IntKind.u64.wrap (c : Int) = (c : Int) := IntWalk.u64_in _ ⟨by omega, by omega⟩
  have k3 : IntKind.u64.wrap (e : Int) = (e : Int) := IntWalk.u64_in _ ⟨by omega, by omega⟩
  have HC4 := Lib.hid (show c < 2 ^ (8 * 4) by simpa using hc)
  have HC64 := Lib.hid (show c < 18446744073709551616 by omega)
  have HE2 := Lib.hid (show e < 2 ^ (8 * 2) by simp; omega)
  have HE64 := Lib.hid (show e < 18446744073709551616 by omega)
  have HF2 := Lib.hid (show f < 256 by rw [← hf]; unfold bitN; split <;> omega)
  have q1 := gt_f (a := l) (b := 7) (by omega)
  have q2 := nat_eq_f (a := p) (by omega)
  have q3 := gt_f (a := p) (b := 7) (by omega)
  have q4 := nat_eq_f (a := e) (by omega)
  have q5 := gt_f (a := e) (b := 8191) (by omega)
  have q6 : ((g.size : Int) != 48) = false := by rw [hg]; rfl
  have k4 : IntKind.u8.wrap ((p : Int) + 128) = (p : Int) + 128 := IntWalk.u8_in _ ⟨by omega, by omega⟩
  have HSC := Lib.hid hsC
  have HSE := Lib.hid hsE
  have HSZ := Lib.hid hz
  have HCL := Lib.hid hcl
  have HFF := Lib.hid hf
  have HB := Lib.hid ((Below.refl w.heap.size w).alloc (Nat.le_refl _) (.cells (cmC b p c e g) 57))
  have K0 := Lib.hid (Rw5.fresh w 57 (.bool b) (.int .u8 (p : Int)) (.int .u32 (c : Int)) (.int .u16 (e : Int)) (.string g))
  clear hz16 hz4 hz2 hsC hsE hz hcl h hc hg hf
  go_enter Try.func30, Try.ntmps30
  go_upto_if 36 with (fail)
  generalize w.alloc (.cells (cmC b p c e g) 57) = w1 at HB K0 ⊢
  obtain ⟨g1, c0, c1, c2, c3, c4⟩ := K0.out
  go_cut [6] (fun s6 wx => s6 = .int .u8 (f : Nat) ∧ wx = w1)
  case first =>
    have HG := Lib.hid HFF.out
    cases b with
    | true =>
      have hf1 : (p : Int) + 128 = (f : Int) := by have := HFF.out; simp [bitN] at this; omega
      have HX := Lib.hid hf1; clear hf1
      go_wp2
      go_meet
      exact ⟨by rw [HX.out], rfl⟩
    | false =>
      have hf1 : (p : Int) = (f : Int) := by have := HFF.out; simp [bitN] at this; omega
      have HX := Lib.hid hf1; clear hf1
      go_wp2
      go_meet
      exact ⟨by rw [HX.out], rfl⟩
  case rest =>
  obtain ⟨rfl, rfl⟩ := hcut
  clear c0 c1 c2 c3 c4 g1
  go_upto_region 8 with (fail)
  obtain ⟨wa, hwa⟩ : ∃ wa, wa = wc.drew := ⟨_, rfl⟩
  have HBR := Lib.hid (show Below w.heap.size w wa by rw [hwa]; exact HB.out.drew)
  have KS := Lib.hid (sc_keeps w.heap.size b p c e g)
  refine wp_region_held_drew (S := Sc w.heap.size b p c e g) (by kernel_rfl) K0.out (fun hHeld => ?_)
  rw [← hwa] at hHeld ⊢
  have HWA := Lib.hid hwa
  clear hwa K0 HB
  refine Rg.tk 0 (v := ?_) ?_ ?_
  rotate_left
  · (intro wx hSx; go_simp; all_goals with_reducible rfl)
  simp only [Act.put, Rg.e1, Rg.e2, Rg.e3, Rg.e4, Rg.e5, Rg.e6]
  refine Rg.tk 1 (v := ?_) ?_ ?_
  rotate_left
  · (intro wx hSx; go_simp; all_goals with_reducible rfl)
  simp only [Act.put, Rg.e1, Rg.e2, Rg.e3, Rg.e4, Rg.e5, Rg.e6]
  refine Rg.tk 2 (v := ?_) ?_ ?_
  rotate_left
  · (intro wx hSx; go_simp; all_goals with_reducible rfl)
  simp only [Act.put, Rg.e1, Rg.e2, Rg.e3, Rg.e4, Rg.e5, Rg.e6]
  refine Rg.tk 3 (v := ?_) ?_ ?_
  rotate_left
  · (intro wx hSx; go_simp; all_goals with_reducible rfl)
  simp only [Act.put, Rg.e1, Rg.e2, Rg.e3, Rg.e4, Rg.e5, Rg.e6]
  refine Rg.tk 4 (v := ?_) ?_ ?_
  rotate_left
  · intro wx hSx
    obtain ⟨_, d0, d1, d2, d3, d4⟩ := hSx; go_simp
    all_goals with_reducible rfl
  simp only [Act.put, Rg.e1, Rg.e2, Rg.e3, Rg.e4, Rg.e5, Rg.e6]
  refine Rg.tk 5 (v := ?_) ?_ ?_
  rotate_left
  · (intro wx hSx; go_simp; all_goals with_reducible rfl)
  simp only [Act.put, Rg.e1, Rg.e2, Rg.e3, Rg.e4, Rg.e5, Rg.e6]
  refine Rg.tk 7 (v := ?_) ?_ ?_
  rotate_left
  · (intro wx hSx; go_simp; all_goals with_reducible rfl)
  simp only [Act.put, Rg.e1, Rg.e2, Rg.e3, Rg.e4, Rg.e5, Rg.e6]
  refine Rg.tk 8 (v := ?_) ?_ ?_
  rotate_left
  · intro wx hSx
    obtain ⟨_, d0, d1, d2, d3, d4⟩ := hSx; go_simp
    all_goals with_reducible rfl
  simp only [Act.put, Rg.e1, Rg.e2, Rg.e3, Rg.e4, Rg.e5, Rg.e6]
  refine Rg.tk 9 (v := ?_) ?_ ?_
  rotate_left
  · (intro wx hSx; go_simp; all_goals with_reducible rfl)
  simp only [Act.put, Rg.e1, Rg.e2, Rg.e3, Rg.e4, Rg.e5, Rg.e6]
  refine Rg.tk 12 (v := ?_) ?_ ?_
  rotate_left
  · (intro wx hSx; go_simp; all_goals with_reducible rfl)
  simp only [Act.put, Rg.e1, Rg.e2, Rg.e3, Rg.e4, Rg.e5, Rg.e6]
  refine Rg.tk 13 (v := ?_) ?_ ?_
  rotate_left
  · intro wx hSx
    obtain ⟨_, d0, d1, d2, d3, d4⟩ := hSx; go_simp
    all_goals with_reducible rfl
  simp only [Act.put, Rg.e1, Rg.e2, Rg.e3, Rg.e4, Rg.e5, Rg.e6]
  refine wpAnyH_ready (rs := [6, 15]) (by kernel_rfl) (by simp) ?_
  refine .cons (o := _) rfl (fun K hK => ?_) ?_
  · go_simp
    refine (put_at sC c 4 _ HSC.out (by omega) (by omega) HC4.out HC64.out).mono ?_
    rintro x wr1 ⟨rfl, hbc⟩
    go_wp2_with fail
    refine Rg.st_call hK hHeld KS.out HBR.out hbc ?_
    clear hK K
    intro hHeld hbr
    have HBR := Lib.hid hbr
    clear hbr hbc
    try simp only [Rg.e1, Rg.e2, Rg.e3]
    refine wpAnyH_ready (rs := [10, 15]) (by kernel_rfl) (by simp) ?_
    refine .cons (o := _) rfl (fun K hK => ?_) ?_
    · go_simp
      refine (put_at sE e 2 _ HSE.out (by omega) (by omega) HE2.out HE64.out).mono ?_
      rintro x wr2 ⟨rfl, hbc⟩
      go_wp2_with fail
      refine Rg.st_call hK hHeld KS.out HBR.out hbc ?_
      clear hK K
      intro hHeld hbr
      have HBR := Lib.hid hbr
      clear hbr hbc
      try simp only [Rg.e1, Rg.e2, Rg.e3]
      refine Rg.tk 11 (v := ?_) ?_ ?_
      rotate_left
      · (intro wx hSx; go_simp; all_goals with_reducible rfl)
      simp only [Act.put, Rg.e1, Rg.e2, Rg.e3, Rg.e4, Rg.e5, Rg.e6]
      refine Rg.tk 14 (v := ?_) ?_ ?_
      rotate_left
      · (intro wx hSx; go_simp; all_goals with_reducible rfl)
      simp only [Act.put, Rg.e1, Rg.e2, Rg.e3, Rg.e4, Rg.e5, Rg.e6]
      refine wpAnyH_ready (rs := [15]) (by kernel_rfl) (by simp) ?_
      refine .cons (o := _) rfl (fun K hK => ?_) ?_
      · have hmk := make16 wr2
        go_simp
        refine Rg.st_alloc hK hHeld KS.out HBR.out ?_
        clear hK K
        intro wr3 hlt hHeld ks hbr
        have HBR := Lib.hid hbr
        have KS := Lib.hid ks
        clear hbr ks hlt
        try simp only [Rg.e1, Rg.e2, Rg.e3]
        refine Rg.tk 16 (v := ?_) ?_ ?_
        rotate_left
        · intro wx hSx
          have hcv := Rg.back_blk (P := Try.prog) (src := 60) (dst := 9) sZ (noughts 16) 16 16 hSx.2 rfl rfl HSZ.out Try.underlying60 Try.underlying5 Try.underlying9; go_simp
          all_goals with_reducible rfl
        simp only [Act.put, Rg.e1, Rg.e2, Rg.e3, Rg.e4, Rg.e5, Rg.e6]
        refine Rg.tk 17 (v := ?_) ?_ ?_
        rotate_left
        · (intro wx hSx; go_simp; all_goals with_reducible rfl)
        simp only [Act.put, Rg.e1, Rg.e2, Rg.e3, Rg.e4, Rg.e5, Rg.e6]
        refine wpAnyH_ready (rs := [18]) (by kernel_rfl) (by simp) ?_
        refine .cons (o := _) rfl (fun K hK => ?_) ?_
        · go_simp
          refine (Oa.rclose_at l 0 1 f 70 _ _ HCL.out (by omega) HF2.out (by omega)).mono ?_
          rintro x wr4 ⟨rfl, hbc⟩
          go_wp2_with fail
          refine Rg.st_call hK hHeld KS.out HBR.out hbc ?_
          clear hK K
          intro hHeld hbr
          have HBR := Lib.hid hbr
          clear hbr hbc
          try simp only [Rg.e1, Rg.e2, Rg.e3]
          refine Rg.tk 19 (v := ?_) ?_ ?_
          rotate_left
          · (intro wx hSx; go_simp; all_goals with_reducible rfl)
          simp only [Act.put, Rg.e1, Rg.e2, Rg.e3, Rg.e4, Rg.e5, Rg.e6]
          refine Rg.tk 20 (v := ?_) ?_ ?_
          rotate_left
          · (intro wx hSx; go_simp; all_goals with_reducible rfl)
          simp only [Act.put, Rg.e1, Rg.e2, Rg.e3, Rg.e4, Rg.e5, Rg.e6]
          refine Rg.tk 21 (v := ?_) ?_ ?_
          rotate_left
          · (intro wx hSx; go_simp; all_goals with_reducible rfl)
          simp only [Act.put, Rg.e1, Rg.e2, Rg.e3, Rg.e4, Rg.e5, Rg.e6]
          refine Rg.tk 22 (v := ?_) ?_ ?_
          rotate_left
          · (intro wx hSx; go_simp; all_goals with_reducible rfl)
          simp only [Act.put, Rg.e1, Rg.e2, Rg.e3, Rg.e4, Rg.e5, Rg.e6]
          refine wpAnyH_done (by kernel_rfl) ?_ _
          go_wp2
          go_ret2
          exact ⟨rfl, HBR.out⟩
        exact AllReadyH.nil
      exact AllReadyH.nil
    refine .cons (o := _) rfl (fun K hK => ?_) ?_
    · have hmk := make16 wr1
      go_simp
      refine Rg.st_alloc hK hHeld KS.out HBR.out ?_
      clear hK K
      intro wr5 hlt hHeld ks hbr
      have HBR := Lib.hid hbr
      have KS := Lib.hid ks
      clear hbr ks hlt
      try simp only [Rg.e1, Rg.e2, Rg.e3]
      refine Rg.tk 16 (v := ?_) ?_ ?_
      rotate_left
      · intro wx hSx
        have hcv := Rg.back_blk (P := Try.prog) (src := 60) (dst := 9) sZ (noughts 16) 16 16 hSx.2 rfl rfl HSZ.out Try.underlying60 Try.underlying5 Try.underlying9; go_simp
        all_goals with_reducible rfl
      simp only [Act.put, Rg.e1, Rg.e2, Rg.e3, Rg.e4, Rg.e5, Rg.e6]
      refine wpAnyH_ready (rs := [10]) (by kernel_rfl) (by simp) ?_
      refine .cons (o := _) rfl (fun K hK => ?_) ?_
      · go_simp
        refine (put_at sE e 2 _ HSE.out (by omega) (by omega) HE2.out HE64.out).mono ?_
        rintro x wr6 ⟨rfl, hbc⟩
        go_wp2_with fail
        refine Rg.st_call hK hHeld KS.out HBR.out hbc ?_
        clear hK K
        intro hHeld hbr
        have HBR := Lib.hid hbr
        clear hbr hbc
        try simp only [Rg.e1, Rg.e2, Rg.e3]
        refine Rg.tk 11 (v := ?_) ?_ ?_
        rotate_left
        · (intro wx hSx; go_simp; all_goals with_reducible rfl)
        simp only [Act.put, Rg.e1, Rg.e2, Rg.e3, Rg.e4, Rg.e5, Rg.e6]
        refine Rg.tk 14 (v := ?_) ?_ ?_
        rotate_left
        · (intro wx hSx; go_simp; all_goals with_reducible rfl)
        simp only [Act.put, Rg.e1, Rg.e2, Rg.e3, Rg.e4, Rg.e5, Rg.e6]
        refine Rg.tk 17 (v := ?_) ?_ ?_
        rotate_left
        · (intro wx hSx; go_simp; all_goals with_reducible rfl)
        simp only [Act.put, Rg.e1, Rg.e2, Rg.e3, Rg.e4, Rg.e5, Rg.e6]
        refine wpAnyH_ready (rs := [18]) (by kernel_rfl) (by simp) ?_
        refine .cons (o := _) rfl (fun K hK => ?_) ?_
        · go_simp
          refine (Oa.rclose_at l 0 1 f 70 _ _ HCL.out (by omega) HF2.out (by omega)).mono ?_
          rintro x wr7 ⟨rfl, hbc⟩
          go_wp2_with fail
          refine Rg.st_call hK hHeld KS.out HBR.out hbc ?_
          clear hK K
          intro hHeld hbr
          have HBR := Lib.hid hbr
          clear hbr hbc
          try simp only [Rg.e1, Rg.e2, Rg.e3]
          refine Rg.tk 19 (v := ?_) ?_ ?_
          rotate_left
          · (intro wx hSx; go_simp; all_goals with_reducible rfl)
          simp only [Act.put, Rg.e1, Rg.e2, Rg.e3, Rg.e4, Rg.e5, Rg.e6]
          refine Rg.tk 20 (v := ?_) ?_ ?_
          rotate_left
          · (intro wx hSx; go_simp; all_goals with_reducible rfl)
          simp only [Act.put, Rg.e1, Rg.e2, Rg.e3, Rg.e4, Rg.e5, Rg.e6]
          refine Rg.tk 21 (v := ?_) ?_ ?_
          rotate_left
          · (intro wx hSx; go_simp; all_goals with_reducible rfl)
          simp only [Act.put, Rg.e1, Rg.e2, Rg.e3, Rg.e4, Rg.e5, Rg.e6]
          refine Rg.tk 22 (v := ?_) ?_ ?_
          rotate_left
          · (intro wx hSx; go_simp; all_goals with_reducible rfl)
          simp only [Act.put, Rg.e1, Rg.e2, Rg.e3, Rg.e4, Rg.e5, Rg.e6]
          refine wpAnyH_done (by kernel_rfl) ?_ _
          go_wp2
          go_ret2
          exact ⟨rfl, HBR.out⟩
        exact AllReadyH.nil
      exact AllReadyH.nil
    exact AllReadyH.nil
  refine .cons (o := _) rfl (fun K hK => ?_) ?_
  · have hmk := make16 wa
    go_simp
    refine Rg.st_alloc hK hHeld KS.out HBR.out ?_
    clear hK K
    intro wr8 hlt hHeld ks hbr
    have HBR := Lib.hid hbr
    have KS := Lib.hid ks
    clear hbr ks hlt
    try simp only [Rg.e1, Rg.e2, Rg.e3]
    refine Rg.tk 16 (v := ?_) ?_ ?_
    rotate_left
    · intro wx hSx
      have hcv := Rg.back_blk (P := Try.prog) (src := 60) (dst := 9) sZ (noughts 16) 16 16 hSx.2 rfl rfl HSZ.out Try.underlying60 Try.underlying5 Try.underlying9; go_simp
      all_goals with_reducible rfl
    simp only [Act.put, Rg.e1, Rg.e2, Rg.e3, Rg.e4, Rg.e5, Rg.e6]
    refine wpAnyH_ready (rs := [6]) (by kernel_rfl) (by simp) ?_
    refine .cons (o := _) rfl (fun K hK => ?_) ?_
    · go_simp
      refine (put_at sC c 4 _ HSC.out (by omega) (by omega) HC4.out HC64.out).mono ?_
      rintro x wr9 ⟨rfl, hbc⟩
      go_wp2_with fail
      refine Rg.st_call hK hHeld KS.out HBR.out hbc ?_
      clear hK K
      intro hHeld hbr
      have HBR := Lib.hid hbr
      clear hbr hbc
      try simp only [Rg.e1, Rg.e2, Rg.e3]
      refine wpAnyH_ready (rs := [10]) (by kernel_rfl) (by simp) ?_
      refine .cons (o := _) rfl (fun K hK => ?_) ?_
      · go_simp
        refine (put_at sE e 2 _ HSE.out (by omega) (by omega) HE2.out HE64.out).mono ?_
        rintro x wr10 ⟨rfl, hbc⟩
        go_wp2_with fail
        refine Rg.st_call hK hHeld KS.out HBR.out hbc ?_
        clear hK K
        intro hHeld hbr
        have HBR := Lib.hid hbr
        clear hbr hbc
        try simp only [Rg.e1, Rg.e2, Rg.e3]
        refine Rg.tk 11 (v := ?_) ?_ ?_
        rotate_left
        · (intro wx hSx; go_simp; all_goals with_reducible rfl)
        simp only [Act.put, Rg.e1, Rg.e2, Rg.e3, Rg.e4, Rg.e5, Rg.e6]
        refine Rg.tk 14 (v := ?_) ?_ ?_
        rotate_left
        · (intro wx hSx; go_simp; all_goals with_reducible rfl)
        simp only [Act.put, Rg.e1, Rg.e2, Rg.e3, Rg.e4, Rg.e5, Rg.e6]
        refine Rg.tk 17 (v := ?_) ?_ ?_
        rotate_left
        · (intro wx hSx; go_simp; all_goals with_reducible rfl)
        simp only [Act.put, Rg.e1, Rg.e2, Rg.e3, Rg.e4, Rg.e5, Rg.e6]
        refine wpAnyH_ready (rs := [18]) (by kernel_rfl) (by simp) ?_
        refine .cons (o := _) rfl (fun K hK => ?_) ?_
        · go_simp
          refine (Oa.rclose_at l 0 1 f 70 _ _ HCL.out (by omega) HF2.out (by omega)).mono ?_
          rintro x wr11 ⟨rfl, hbc⟩
          go_wp2_with fail
          refine Rg.st_call hK hHeld KS.out HBR.out hbc ?_
          clear hK K
          intro hHeld hbr
          have HBR := Lib.hid hbr
          clear hbr hbc
          try simp only [Rg.e1, Rg.e2, Rg.e3]
          refine Rg.tk 19 (v := ?_) ?_ ?_
          rotate_left
          · (intro wx hSx; go_simp; all_goals with_reducible rfl)
          simp only [Act.put, Rg.e1, Rg.e2, Rg.e3, Rg.e4, Rg.e5, Rg.e6]
          refine Rg.tk 20 (v := ?_) ?_ ?_
          rotate_left
          · (intro wx hSx; go_simp; all_goals with_reducible rfl)
          simp only [Act.put, Rg.e1, Rg.e2, Rg.e3, Rg.e4, Rg.e5, Rg.e6]
          refine Rg.tk 21 (v := ?_) ?_ ?_
          rotate_left
          · (intro wx hSx; go_simp; all_goals with_reducible rfl)
          simp only [Act.put, Rg.e1, Rg.e2, Rg.e3, Rg.e4, Rg.e5, Rg.e6]
          refine Rg.tk 22 (v := ?_) ?_ ?_
          rotate_left
          · (intro wx hSx; go_simp; all_goals with_reducible rfl)
          simp only [Act.put, Rg.e1, Rg.e2, Rg.e3, Rg.e4, Rg.e5, Rg.e6]
          refine wpAnyH_done (by kernel_rfl) ?_ _
          go_wp2
          go_ret2
          exact ⟨rfl, HBR.out⟩
        exact AllReadyH.nil
      exact AllReadyH.nil
    exact AllReadyH.nil
  exact AllReadyH.nil
theorem close_at {bs : List UInt8} {r : Nat} (b : Bool) (p c e : Nat) (g : ByteArray) (l : Nat) (w : World) (h : closeC ⟨b, p, c, e, g.data.toList⟩ l = (bs, r)) (hc : c < 4294967296) :
    Calls Try.prog 27 #[cmV b p c e g, .int .u8 (l : Int)] w fun x w' => x = .returned (.tuple #[.string ⟨bs.toArray⟩, .int .i64 (r : Int)]) ∧ Below w.heap.size w w' := by
  unfold closeC at h
  by_cases h1 : badC ⟨b, p, c, e, g.data.toList⟩ l
  · rw [if_pos h1] at h
    simp only [Prod.mk.injEq] at h
    obtain ⟨rfl, rfl⟩ := h
    exact close_wrong b p c e g l 4 w (if_pos h1) (by omega)
  rw [if_neg h1] at h
  by_cases h2 : g.data.toList.length ≠ 48
  · rw [if_pos h2] at h
    simp only [Prod.mk.injEq] at h
    obtain ⟨rfl, rfl⟩ := h
    refine close_wrong b p c e g l 3 w ?_ (by omega)
    unfold wrongC
    rw [if_neg h1, if_pos h2]
  rw [if_neg h2] at h
  have h3 : wrongC ⟨b, p, c, e, g.data.toList⟩ l = 0 := by unfold wrongC; rw [if_neg h1, if_neg h2]
  unfold badC at h1
  simp only at h1
  have hg : g.size = 48 := by rw [← size_list]; simpa using h2
  have hf : p + bitN b 128 < 256 := by unfold bitN; split <;> omega
  refine close_ok b p c e g l (p + bitN b 128) ⟨#[UInt8.ofNat (p + bitN b 128)]⟩ ⟨(putB c 4 ++ putB e 2).toArray⟩ _ bs r w h3 (by omega) hc (by omega) hg (pack_flags b p (by omega)) (pack_cont c e hc (by omega)) (show 0 < 1 by omega) (ofNat_toNat _ hf) hf (by rw [size_mk, List.length_append, length_putB, length_putB]) rfl ?_
  rw [← h]
  congr 1
  simp [content]
theorem rclose_at {bs : List UInt8} {r : Nat} (b : Bool) (p c e : Nat) (g : ByteArray) (l : Nat) (w : World) (h : closeC ⟨b, p, c, e, g.data.toList⟩ l = (bs, r)) (hc : c < 4294967296) :
    Calls Try.prog 30 #[cmV b p c e g, .int .u8 (l : Int)] w fun x w' => x = .returned (.tuple #[.string ⟨bs.toArray⟩, .int .i64 (r : Int)]) ∧ Below w.heap.size w w' := by
  unfold closeC at h
  by_cases h1 : badC ⟨b, p, c, e, g.data.toList⟩ l
  · rw [if_pos h1] at h
    simp only [Prod.mk.injEq] at h
    obtain ⟨rfl, rfl⟩ := h
    exact rclose_bad b p c e g l w h1
  rw [if_neg h1] at h
  unfold badC at h1
  simp only at h1
  by_cases h2 : g.data.toList.length ≠ 48
  · rw [if_pos h2] at h
    simp only [Prod.mk.injEq] at h
    obtain ⟨rfl, rfl⟩ := h
    exact rclose_len b p c e g l w h1 (by rw [← size_list]; exact h2)
  rw [if_neg h2] at h
  have hg : g.size = 48 := by rw [← size_list]; simpa using h2
  refine rclose_ok b p c e g l (p + bitN b 128) _ _ _ bs r w h1 hc hg rfl rfl rfl rfl ?_
  rw [← h]
  congr 1
  simp [content]
end Go.Proofs.Ytlbnigdindpnfaa.Cc
namespace Go.Proofs.Ytlbnigdindpnfaa.Cc
open Go.RowKit Go.Proofs.Ytlbnigdindpnfaa.Bt Go.Proofs.Ytlbnigdindpnfaa.Mm Go.Proofs.Ytlbnigdindpnfaa.Fl Go.Proofs.Ytlbnigdindpnfaa.Lw Go.Proofs.Ytlbnigdindpnfaa.Hx Go.Proofs.Ytlbnigdindpnfaa.Mc Go.Proofs.Ytlbnigdindpnfaa.Tg Go.Proofs.Ytlbnigdindpnfaa.Oa Go.Proofs.Ytlbnigdindpnfaa.Rp
set_option linter.unusedSimpArgs false
set_option linter.unusedVariables false

abbrev zeroCC : Array Value := #[.bool false, .int .u8 0, .int .u32 0, .int .u16 0, .string ⟨#[]⟩]
abbrev zeroCV : Value := .agg zeroCC
theorem info_cmsg : (Try.prog.info? 48).map (·.size) = some 5 := by kernel_rfl
theorem info_rcmsg : (Try.prog.info? 57).map (·.size) = some 5 := by kernel_rfl
abbrev widthsF : List Int := [1, 4, 3]
abbrev widthsC : List Int := [32, 3, 13]
theorem split_flags (c : ByteArray) (h : c.size = 1) : splitR c widthsF = ([byteAt c.data.toList 0 / 128, byteAt c.data.toList 0 / 8 % 16, byteAt c.data.toList 0 % 8], c.extract 1 c.size, 0) := by
  have e1 : widthsF.all okW = true := by decide
  have e2 : tot widthsF = 8 := by decide
  have ev : valsOf c widthsF = [getB c 0 1, getB c 1 4, getB c 5 3] := rfl
  have j0 := getB_join c 0 1 7 (by omega)
  have j1 := getB_join c 1 4 3 (by omega)
  have b0 := byte_get c 0 (by omega)
  have l0 := getB_lt c 0 1
  have l1 := getB_lt c 1 4
  have l2 := getB_lt c 5 3
  simp only [Nat.reduceAdd, Nat.reduceMul, Nat.reducePow, Nat.zero_add, Nat.mul_zero, Nat.mul_one] at j0 j1 b0 l0 l1 l2
  have p0 : getB c 0 1 = byteAt c.data.toList 0 / 128 := by omega
  have p1 : getB c 1 4 = byteAt c.data.toList 0 / 8 % 16 := by omega
  have p2 : getB c 5 3 = byteAt c.data.toList 0 % 8 := by omega
  unfold splitR
  rw [if_pos e1, e2, if_pos (by decide), if_pos (by omega), ev, p0, p1, p2]
theorem split_cont (c : ByteArray) (h : c.size = 70) : splitR c widthsC = ([getN c.data.toList 0 4, getN c.data.toList 4 2 / 8192, getN c.data.toList 4 2 % 8192], c.extract 6 c.size, 0) := by
  have e1 : widthsC.all okW = true := by decide
  have e2 : tot widthsC = 48 := by decide
  have ev : valsOf c widthsC = [getB c 0 32, getB c 32 3, getB c 35 13] := rfl
  have j0 := getB_join c 32 3 13 (by omega)
  have g0 := getB_getN c 0 4
  have g1 := getB_getN c 4 2
  have l2 := getB_lt c 35 13
  simp only [Nat.reduceAdd, Nat.reduceMul, Nat.reducePow, Nat.zero_add, Nat.mul_zero, Nat.mul_one] at j0 g0 g1 l2
  have p1 : getB c 32 3 = getN c.data.toList 4 2 / 8192 := by omega
  have p2 : getB c 35 13 = getN c.data.toList 4 2 % 8192 := by omega
  unfold splitR
  rw [if_pos e1, e2, if_pos (by decide), if_pos (by omega), ev, g0, p1, p2]
/-- cells of two slices that were read -/
def St4 (B : Nat) (a1 a2 : Addr) (x0 x2 y0 y2 : Nat) (w : World) : Prop :=
  B ≤ w.heap.size ∧ a1.block < B ∧ a2.block < B ∧ w.cell? a1 = some (.int .u64 (x0 : Int)) ∧ w.cell? ⟨a1.block, a1.off + 2, none⟩ = some (.int .u64 (x2 : Int)) ∧ w.cell? a2 = some (.int .u64 (y0 : Int)) ∧ w.cell? ⟨a2.block, a2.off + 2, none⟩ = some (.int .u64 (y2 : Int))
theorem st4_keeps (B : Nat) (a1 a2 : Addr) (x0 x2 y0 y2 : Nat) : Rg.Keeps (St4 B a1 a2 x0 x2 y0 y2) := by
  rintro w w' ⟨h0, h1, h2, c0, c1, c2, c3⟩ hb
  exact ⟨Nat.le_trans h0 hb.size, h1, h2, (hb.cell (Nat.lt_of_lt_of_le h1 h0)).trans c0, (hb.cell (p := ⟨a1.block, a1.off + 2, none⟩) (Nat.lt_of_lt_of_le h1 h0)).trans c1, (hb.cell (Nat.lt_of_lt_of_le h2 h0)).trans c2, (hb.cell (p := ⟨a2.block, a2.off + 2, none⟩) (Nat.lt_of_lt_of_le h2 h0)).trans c3⟩
theorem st4_set {B : Nat} {a1 a2 : Addr} {x0 x2 y0 y2 : Nat} {w : World} (h : St4 B a1 a2 x0 x2 y0 y2 w) {g : Nat} (hg : B ≤ g) (v0 v1 v2 v3 v4 : Value) : St4 B a1 a2 x0 x2 y0 y2 (Rw5.set w g v0 v1 v2 v3 v4) := by
  obtain ⟨h0, h1, h2, c0, c1, c2, c3⟩ := h
  have hb : Below B w (Rw5.set w g v0 v1 v2 v3 v4) := Rw5.below_set ((Below.refl w.heap.size w).mono h0) hg _ _ _ _ _
  exact ⟨Nat.le_trans h0 hb.size, h1, h2, (hb.cell h1).trans c0, (hb.cell (p := ⟨a1.block, a1.off + 2, none⟩) h1).trans c1, (hb.cell h2).trans c2, (hb.cell (p := ⟨a2.block, a2.off + 2, none⟩) h2).trans c3⟩
theorem lv_true (w : World) : Calls Try.prog 25 #[.bool true] w fun e w' => e = .returned (.int .u64 1) ∧ w = w' := lv_any true w

set_option maxRecDepth 100000 in
set_option maxHeartbeats 2000000 in
theorem open_err (s cb : ByteArray) (l v c f o : Nat) (cs : List UInt8) (k lv : Nat) (w : World) (hs : s.size ≤ maxLen) (ho : openO s.data.toList = (⟨l, v, c, f, o⟩, cs, k)) (hcb : (⟨cs.toArray⟩ : ByteArray) = cb) (hk : k ≠ 0) :
    Calls Try.prog 14 #[.string s, .int .u8 (lv : Int)] w fun x w' => x = .returned (.tuple #[zeroCV, .int .i64 (k : Int)]) ∧ Below w.heap.size w w' := by
  have HO := Lib.hid ho; clear ho
  have HS := Lib.hid hs; clear hs
  have HCB := Lib.hid hcb; clear hcb
  have q1 : ((k : Int) != 0) = true := neq_t (by omega)
  clear hk
  go_enter Try.func14, Try.ntmps14
  go_wp2_with fail
  refine (Oa.open_at s _ HO.out HS.out).mono ?_
  rintro x w1 ⟨rfl, hb1⟩
  have HK := Lib.hid ((Blk.fresh w 48 zeroCC).below hb1 (by simp))
  have HB := Lib.hid (((Below.refl w.heap.size w).alloc (Nat.le_refl _) (.cells zeroCC 48)).trans (hb1.mono (by simp)))
  clear hb1
  simp only [valH]
  rw [HCB.out]
  go_upto_if 25 with (fail)
  have H6 := Lib.hid (HB.out.alloc HB.out.size (.cells (hdC l v c f o) 62))
  have H7 := Lib.hid (HK.out.alloc (.cells (hdC l v c f o) 62))
  have H8 := Lib.hid (Blk.fresh w1 62 (hdC l v c f o))
  generalize w1.alloc (.cells (hdC l v c f o) 62) = w2 at H6 H7 H8 ⊢
  obtain ⟨c0, c1, c2, c3, c4, y0, y1, y2, y3, y4⟩ := Rw5.row H7.out
  obtain ⟨d0, d1, d2, d3, d4, _⟩ := Rw5.row H8.out
  go_wp2
  (try simp only [Exit.inBlock, Exit.then]); refine bodyPost_ret (results_row2 rfl _ _ w.heap.size 48 _ (0, 0) _ rfl (Rw5.blk_set H7.out _ _ _ _ _) Try.underlying48 rfl info_cmsg) rfl ?_
  exact ⟨rfl, Rw5.below_set H6.out (Nat.le_refl _) _ _ _ _ _⟩
set_option maxRecDepth 100000 in
set_option maxHeartbeats 2000000 in
theorem open_is (s cb : ByteArray) (l v c f o : Nat) (cs : List UInt8) (k lv r : Nat) (w : World) (hs : s.size ≤ maxLen) (ho : openO s.data.toList = (⟨l, v, c, f, o⟩, cs, k)) (hcb : (⟨cs.toArray⟩ : ByteArray) = cb) (hk : k = 0) (hi : isO ⟨l, v, c, f, o⟩ lv 0 1 70 = r) (hr : r ≠ 0) :
    Calls Try.prog 14 #[.string s, .int .u8 (lv : Int)] w fun x w' => x = .returned (.tuple #[zeroCV, .int .i64 (r : Int)]) ∧ Below w.heap.size w w' := by
  have HO := Lib.hid ho; clear ho
  have HS := Lib.hid hs; clear hs
  have HCB := Lib.hid hcb; clear hcb
  obtain rfl := hk
  have q2 : ((r : Int) != 0) = true := neq_t (by omega)
  have HI := Lib.hid hi
  clear hr hi
  go_enter Try.func14, Try.ntmps14
  go_wp2_with fail
  refine (Oa.open_at s _ HO.out HS.out).mono ?_
  rintro x w1 ⟨rfl, hb1⟩
  have HK := Lib.hid ((Blk.fresh w 48 zeroCC).below hb1 (by simp))
  have HB := Lib.hid (((Below.refl w.heap.size w).alloc (Nat.le_refl _) (.cells zeroCC 48)).trans (hb1.mono (by simp)))
  clear hb1
  simp only [valH]
  rw [HCB.out]
  go_upto_if 25 with (fail)
  have H6 := Lib.hid (HB.out.alloc HB.out.size (.cells (hdC l v c f o) 62))
  have H7 := Lib.hid (HK.out.alloc (.cells (hdC l v c f o) 62))
  have H8 := Lib.hid (Blk.fresh w1 62 (hdC l v c f o))
  generalize w1.alloc (.cells (hdC l v c f o) 62) = w2 at H6 H7 H8 ⊢
  obtain ⟨c0, c1, c2, c3, c4, y0, y1, y2, y3, y4⟩ := Rw5.row H7.out
  obtain ⟨d0, d1, d2, d3, d4, _⟩ := Rw5.row H8.out
  go_wp2_with fail
  refine (is_any l v c f o lv 0 1 70 _).mono ?_
  rintro x w3 ⟨rfl, hbb⟩
  have HB2 := Lib.hid (H6.out.trans (hbb.mono H6.out.size))
  have HK2 := Lib.hid (H7.out.below hbb H7.out.lt)
  have HH2 := Lib.hid (H8.out.below hbb H8.out.lt)
  rw [HI.out]
  clear hbb c0 c1 c2 c3 c4 y0 y1 y2 y3 y4 d0 d1 d2 d3 d4
  obtain ⟨c0, c1, c2, c3, c4, y0, y1, y2, y3, y4⟩ := Rw5.row HK2.out
  go_wp2
  (try simp only [Exit.inBlock, Exit.then]); refine bodyPost_ret (results_row2 rfl _ _ w.heap.size 48 _ (0, 0) _ rfl (Rw5.blk_set HK2.out _ _ _ _ _) Try.underlying48 rfl info_cmsg) rfl ?_
  exact ⟨rfl, Rw5.below_set HB2.out (Nat.le_refl _) _ _ _ _ _⟩
set_option maxRecDepth 100000 in
set_option maxHeartbeats 4000000 in
theorem open_strayA (s cb fb fr rest tl : ByteArray) (l v c f o : Nat) (cs : List UInt8) (lv x0 z1 x2 y0 z2 y2 : Nat) (zb : Bool) (w : World) (hs : s.size ≤ maxLen) (ho : openO s.data.toList = (⟨l, v, c, f, o⟩, cs, 0)) (hcb : (⟨cs.toArray⟩ : ByteArray) = cb) (hi : isO ⟨l, v, c, f, o⟩ lv 0 1 70 = 0) (hcz : cb.size ≤ maxLen)
    (hfb : (⟨[UInt8.ofNat f].toArray⟩ : ByteArray) = fb) (hfs : fb.size ≤ maxLen) (hf2 : f < 256) (hsf : splitR fb widthsF = ([x0, z1, x2], fr, 0)) (hsc : splitR cb widthsC = ([y0, z2, y2], rest, 0)) (hrs : 48 ≤ rest.size) (hrm : rest.size ≤ 1000) (htl : rest.extract 48 rest.size = tl) (hz : zeros tl.data.toList = zb) (htm : tl.size ≤ maxLen) (h1 : z1 ≠ 0) :
    Calls Try.prog 14 #[.string s, .int .u8 (lv : Int)] w fun x w' => x = .returned (.tuple #[zeroCV, .int .i64 ((3 : Nat) : Int)]) ∧ Below w.heap.size w w' := by
  have HO := Lib.hid ho; clear ho
  have HS := Lib.hid hs; clear hs
  have HCB := Lib.hid hcb; clear hcb
  have HI := Lib.hid hi; clear hi
  have HCZ := Lib.hid hcz; clear hcz
  have HFB := Lib.hid hfb; clear hfb
  have HFS := Lib.hid hfs; clear hfs
  have HF2 := Lib.hid hf2; clear hf2
  have HSF := Lib.hid hsf; clear hsf
  have HSC := Lib.hid hsc; clear hsc
  have HZ := Lib.hid hz; clear hz
  have HTM := Lib.hid htm; clear htm
  have m1 : (48 : Int) ≤ (rest.size : Int) := by omega
  have q2 : ((z1 : Int) != 0) = true := neq_t (by omega)
  clear h1
  go_enter Try.func14, Try.ntmps14
  go_wp2_with fail
  refine (Oa.open_at s _ HO.out HS.out).mono ?_
  rintro x w1 ⟨rfl, hb1⟩
  have HK := Lib.hid ((Blk.fresh w 48 zeroCC).below hb1 (by simp))
  have HB := Lib.hid (((Below.refl w.heap.size w).alloc (Nat.le_refl _) (.cells zeroCC 48)).trans (hb1.mono (by simp)))
  clear hb1
  simp only [valH]
  rw [HCB.out]
  go_upto_if 25 with (fail)
  have H6 := Lib.hid (HB.out.alloc HB.out.size (.cells (hdC l v c f o) 62))
  have H7 := Lib.hid (HK.out.alloc (.cells (hdC l v c f o) 62))
  have H8 := Lib.hid (Blk.fresh w1 62 (hdC l v c f o))
  generalize w1.alloc (.cells (hdC l v c f o) 62) = w2 at H6 H7 H8 ⊢
  obtain ⟨c0, c1, c2, c3, c4, y0, y1, y2, y3, y4⟩ := Rw5.row H7.out
  obtain ⟨d0, d1, d2, d3, d4, _⟩ := Rw5.row H8.out
  go_wp2_with fail
  refine (is_any l v c f o lv 0 1 70 _).mono ?_
  rintro x w3 ⟨rfl, hbb⟩
  have HB2 := Lib.hid (H6.out.trans (hbb.mono H6.out.size))
  have HK2 := Lib.hid (H7.out.below hbb H7.out.lt)
  have HH2 := Lib.hid (H8.out.below hbb H8.out.lt)
  rw [HI.out]
  clear hbb c0 c1 c2 c3 c4 y0 y1 y2 y3 y4 d0 d1 d2 d3 d4
  obtain ⟨d0, d1, d2, d3, d4, _⟩ := Rw5.row HH2.out
  have hcv := back_new (P := Try.prog) (src := 60) (dst := 9) (e := 5) w3 #[.int .u8 (f : Int)] [UInt8.ofNat f] 1 1 (by simp only [byteVals, List.map_cons, List.map_nil]; rw [ofNat_toNat _ HF2.out]) rfl Try.underlying60 Try.underlying5 Try.underlying9
  rw [HFB.out] at hcv
  go_wp2_with fail
  refine (split_blk fb widthsF _ _ 3 _ _ _ _ (fresh_second _ _ _ _) rfl HSF.out rfl rfl HFS.out (by simp)).mono ?_
  rintro x w4 ⟨A1, k1, rfl, hr1, hb4⟩
  have HB4 := Lib.hid (((HB2.out.alloc HB2.out.size (.cells #[.int .u8 (f : Int)] 5)).alloc (by have := HB2.out.size; simp; omega) (.cells #[.int .i64 1, .int .i64 4, .int .i64 3] 3)).trans (hb4.mono (by have := HB2.out.size; simp; omega)))
  have HK4 := Lib.hid (((HK2.out.alloc (.cells #[.int .u8 (f : Int)] 5)).alloc (.cells #[.int .i64 1, .int .i64 4, .int .i64 3] 3)).below hb4 ((HK2.out.alloc _).alloc _).lt)
  have HR1 := Lib.hid hr1
  clear hb4 hr1 hcv d0 d1 d2 d3 d4
  go_wp2_with fail
  refine (split_blk cb widthsC _ _ 3 _ _ _ _ (Blk.fresh _ _ _) rfl HSC.out rfl rfl HCZ.out (by simp)).mono ?_
  rintro x w5 ⟨A2, k2, rfl, hr2, hb5⟩
  have HB5 := Lib.hid ((HB4.out.alloc HB4.out.size (.cells #[.int .i64 32, .int .i64 3, .int .i64 13] 3)).trans (hb5.mono (by have := HB4.out.size; simp; omega)))
  have HK5 := Lib.hid ((HK4.out.alloc (.cells #[.int .i64 32, .int .i64 3, .int .i64 13] 3)).below hb5 (HK4.out.alloc _).lt)
  obtain ⟨a2, rfl, l2, hcell2⟩ := hr2 (by simp [nums])
  have hr1' := (HR1.out.below ((Below.refl w4.heap.size w4).alloc (Nat.le_refl _) (.cells #[.int .i64 32, .int .i64 3, .int .i64 13] 3))).below (hb5.mono (by simp))
  obtain ⟨a1, rfl, l1, hcell1⟩ := hr1' (by simp [nums])
  have l1' : a1.block < w5.heap.size := Nat.lt_of_lt_of_le l1 (by have := hb5.size; simp at this; omega)
  have e0 := hcell1 0 _ rfl
  have e1 := hcell1 1 _ rfl
  have e2 := hcell1 2 _ rfl
  have f0 := hcell2 0 _ rfl
  have f1 := hcell2 1 _ rfl
  have f2 := hcell2 2 _ rfl
  simp [Addr.add] at e0 e1 e2 f0 f1 f2
  have L1 := Lib.hid l1'
  have L2 := Lib.hid l2
  clear hb5 hr1' hcell1 hcell2 l1 l1' l2
  obtain ⟨c0, c1, c2, c3, c4, w0', w1', w2', w3', w4'⟩ := Rw5.row HK5.out
  go_wp2
  (try simp only [Exit.inBlock, Exit.then]); refine bodyPost_ret (results_row2 rfl _ _ w.heap.size 48 _ (0, 0) _ rfl (Rw5.blk_set HK5.out _ _ _ _ _) Try.underlying48 rfl info_cmsg) rfl ?_
  exact ⟨rfl, Rw5.below_set HB5.out (Nat.le_refl _) _ _ _ _ _⟩
set_option maxRecDepth 100000 in
set_option maxHeartbeats 4000000 in
theorem open_strayB (s cb fb fr rest tl : ByteArray) (l v c f o : Nat) (cs : List UInt8) (lv x0 z1 x2 y0 z2 y2 : Nat) (zb : Bool) (w : World) (hs : s.size ≤ maxLen) (ho : openO s.data.toList = (⟨l, v, c, f, o⟩, cs, 0)) (hcb : (⟨cs.toArray⟩ : ByteArray) = cb) (hi : isO ⟨l, v, c, f, o⟩ lv 0 1 70 = 0) (hcz : cb.size ≤ maxLen)
    (hfb : (⟨[UInt8.ofNat f].toArray⟩ : ByteArray) = fb) (hfs : fb.size ≤ maxLen) (hf2 : f < 256) (hsf : splitR fb widthsF = ([x0, z1, x2], fr, 0)) (hsc : splitR cb widthsC = ([y0, z2, y2], rest, 0)) (hrs : 48 ≤ rest.size) (hrm : rest.size ≤ 1000) (htl : rest.extract 48 rest.size = tl) (hz : zeros tl.data.toList = zb) (htm : tl.size ≤ maxLen) (h1 : z1 = 0) (h2 : z2 ≠ 0) :
    Calls Try.prog 14 #[.string s, .int .u8 (lv : Int)] w fun x w' => x = .returned (.tuple #[zeroCV, .int .i64 ((3 : Nat) : Int)]) ∧ Below w.heap.size w w' := by
  have HO := Lib.hid ho; clear ho
  have HS := Lib.hid hs; clear hs
  have HCB := Lib.hid hcb; clear hcb
  have HI := Lib.hid hi; clear hi
  have HCZ := Lib.hid hcz; clear hcz
  have HFB := Lib.hid hfb; clear hfb
  have HFS := Lib.hid hfs; clear hfs
  have HF2 := Lib.hid hf2; clear hf2
  have HSF := Lib.hid hsf; clear hsf
  have HSC := Lib.hid hsc; clear hsc
  have HZ := Lib.hid hz; clear hz
  have HTM := Lib.hid htm; clear htm
  have m1 : (48 : Int) ≤ (rest.size : Int) := by omega
  have q2 : ((z1 : Int) != 0) = false := neq_f (by omega)
  have q3 : ((z2 : Int) != 0) = true := neq_t (by omega)
  clear h1 h2
  go_enter Try.func14, Try.ntmps14
  go_wp2_with fail
  refine (Oa.open_at s _ HO.out HS.out).mono ?_
  rintro x w1 ⟨rfl, hb1⟩
  have HK := Lib.hid ((Blk.fresh w 48 zeroCC).below hb1 (by simp))
  have HB := Lib.hid (((Below.refl w.heap.size w).alloc (Nat.le_refl _) (.cells zeroCC 48)).trans (hb1.mono (by simp)))
  clear hb1
  simp only [valH]
  rw [HCB.out]
  go_upto_if 25 with (fail)
  have H6 := Lib.hid (HB.out.alloc HB.out.size (.cells (hdC l v c f o) 62))
  have H7 := Lib.hid (HK.out.alloc (.cells (hdC l v c f o) 62))
  have H8 := Lib.hid (Blk.fresh w1 62 (hdC l v c f o))
  generalize w1.alloc (.cells (hdC l v c f o) 62) = w2 at H6 H7 H8 ⊢
  obtain ⟨c0, c1, c2, c3, c4, y0, y1, y2, y3, y4⟩ := Rw5.row H7.out
  obtain ⟨d0, d1, d2, d3, d4, _⟩ := Rw5.row H8.out
  go_wp2_with fail
  refine (is_any l v c f o lv 0 1 70 _).mono ?_
  rintro x w3 ⟨rfl, hbb⟩
  have HB2 := Lib.hid (H6.out.trans (hbb.mono H6.out.size))
  have HK2 := Lib.hid (H7.out.below hbb H7.out.lt)
  have HH2 := Lib.hid (H8.out.below hbb H8.out.lt)
  rw [HI.out]
  clear hbb c0 c1 c2 c3 c4 y0 y1 y2 y3 y4 d0 d1 d2 d3 d4
  obtain ⟨d0, d1, d2, d3, d4, _⟩ := Rw5.row HH2.out
  have hcv := back_new (P := Try.prog) (src := 60) (dst := 9) (e := 5) w3 #[.int .u8 (f : Int)] [UInt8.ofNat f] 1 1 (by simp only [byteVals, List.map_cons, List.map_nil]; rw [ofNat_toNat _ HF2.out]) rfl Try.underlying60 Try.underlying5 Try.underlying9
  rw [HFB.out] at hcv
  go_wp2_with fail
  refine (split_blk fb widthsF _ _ 3 _ _ _ _ (fresh_second _ _ _ _) rfl HSF.out rfl rfl HFS.out (by simp)).mono ?_
  rintro x w4 ⟨A1, k1, rfl, hr1, hb4⟩
  have HB4 := Lib.hid (((HB2.out.alloc HB2.out.size (.cells #[.int .u8 (f : Int)] 5)).alloc (by have := HB2.out.size; simp; omega) (.cells #[.int .i64 1, .int .i64 4, .int .i64 3] 3)).trans (hb4.mono (by have := HB2.out.size; simp; omega)))
  have HK4 := Lib.hid (((HK2.out.alloc (.cells #[.int .u8 (f : Int)] 5)).alloc (.cells #[.int .i64 1, .int .i64 4, .int .i64 3] 3)).below hb4 ((HK2.out.alloc _).alloc _).lt)
  have HR1 := Lib.hid hr1
  clear hb4 hr1 hcv d0 d1 d2 d3 d4
  go_wp2_with fail
  refine (split_blk cb widthsC _ _ 3 _ _ _ _ (Blk.fresh _ _ _) rfl HSC.out rfl rfl HCZ.out (by simp)).mono ?_
  rintro x w5 ⟨A2, k2, rfl, hr2, hb5⟩
  have HB5 := Lib.hid ((HB4.out.alloc HB4.out.size (.cells #[.int .i64 32, .int .i64 3, .int .i64 13] 3)).trans (hb5.mono (by have := HB4.out.size; simp; omega)))
  have HK5 := Lib.hid ((HK4.out.alloc (.cells #[.int .i64 32, .int .i64 3, .int .i64 13] 3)).below hb5 (HK4.out.alloc _).lt)
  obtain ⟨a2, rfl, l2, hcell2⟩ := hr2 (by simp [nums])
  have hr1' := (HR1.out.below ((Below.refl w4.heap.size w4).alloc (Nat.le_refl _) (.cells #[.int .i64 32, .int .i64 3, .int .i64 13] 3))).below (hb5.mono (by simp))
  obtain ⟨a1, rfl, l1, hcell1⟩ := hr1' (by simp [nums])
  have l1' : a1.block < w5.heap.size := Nat.lt_of_lt_of_le l1 (by have := hb5.size; simp at this; omega)
  have e0 := hcell1 0 _ rfl
  have e1 := hcell1 1 _ rfl
  have e2 := hcell1 2 _ rfl
  have f0 := hcell2 0 _ rfl
  have f1 := hcell2 1 _ rfl
  have f2 := hcell2 2 _ rfl
  simp [Addr.add] at e0 e1 e2 f0 f1 f2
  have L1 := Lib.hid l1'
  have L2 := Lib.hid l2
  clear hb5 hr1' hcell1 hcell2 l1 l1' l2
  obtain ⟨c0, c1, c2, c3, c4, w0', w1', w2', w3', w4'⟩ := Rw5.row HK5.out
  go_wp2
  (try simp only [Exit.inBlock, Exit.then]); refine bodyPost_ret (results_row2 rfl _ _ w.heap.size 48 _ (0, 0) _ rfl (Rw5.blk_set HK5.out _ _ _ _ _) Try.underlying48 rfl info_cmsg) rfl ?_
  exact ⟨rfl, Rw5.below_set HB5.out (Nat.le_refl _) _ _ _ _ _⟩
set_option maxRecDepth 100000 in
set_option maxHeartbeats 4000000 in
theorem open_strayC (s cb fb fr rest tl : ByteArray) (l v c f o : Nat) (cs : List UInt8) (lv x0 z1 x2 y0 z2 y2 : Nat) (zb : Bool) (w : World) (hs : s.size ≤ maxLen) (ho : openO s.data.toList = (⟨l, v, c, f, o⟩, cs, 0)) (hcb : (⟨cs.toArray⟩ : ByteArray) = cb) (hi : isO ⟨l, v, c, f, o⟩ lv 0 1 70 = 0) (hcz : cb.size ≤ maxLen)
    (hfb : (⟨[UInt8.ofNat f].toArray⟩ : ByteArray) = fb) (hfs : fb.size ≤ maxLen) (hf2 : f < 256) (hsf : splitR fb widthsF = ([x0, z1, x2], fr, 0)) (hsc : splitR cb widthsC = ([y0, z2, y2], rest, 0)) (hrs : 48 ≤ rest.size) (hrm : rest.size ≤ 1000) (htl : rest.extract 48 rest.size = tl) (hz : zeros tl.data.toList = zb) (htm : tl.size ≤ maxLen) (h1 : z1 = 0) (h2 : z2 = 0) (hzb : zb = false) :
    Calls Try.prog 14 #[.string s, .int .u8 (lv : Int)] w fun x w' => x = .returned (.tuple #[zeroCV, .int .i64 ((3 : Nat) : Int)]) ∧ Below w.heap.size w w' := by
  have HO := Lib.hid ho; clear ho
  have HS := Lib.hid hs; clear hs
  have HCB := Lib.hid hcb; clear hcb
  have HI := Lib.hid hi; clear hi
  have HCZ := Lib.hid hcz; clear hcz
  have HFB := Lib.hid hfb; clear hfb
  have HFS := Lib.hid hfs; clear hfs
  have HF2 := Lib.hid hf2; clear hf2
  have HSF := Lib.hid hsf; clear hsf
  have HSC := Lib.hid hsc; clear hsc
  have HZ := Lib.hid hz; clear hz
  have HTM := Lib.hid htm; clear htm
  have m1 : (48 : Int) ≤ (rest.size : Int) := by omega
  have q2 : ((z1 : Int) != 0) = false := neq_f (by omega)
  have q3 : ((z2 : Int) != 0) = false := neq_f (by omega)
  subst hzb
  clear h1 h2
  go_enter Try.func14, Try.ntmps14
  go_wp2_with fail
  refine (Oa.open_at s _ HO.out HS.out).mono ?_
  rintro x w1 ⟨rfl, hb1⟩
  have HK := Lib.hid ((Blk.fresh w 48 zeroCC).below hb1 (by simp))
  have HB := Lib.hid (((Below.refl w.heap.size w).alloc (Nat.le_refl _) (.cells zeroCC 48)).trans (hb1.mono (by simp)))
  clear hb1
  simp only [valH]
  rw [HCB.out]
  go_upto_if 25 with (fail)
  have H6 := Lib.hid (HB.out.alloc HB.out.size (.cells (hdC l v c f o) 62))
  have H7 := Lib.hid (HK.out.alloc (.cells (hdC l v c f o) 62))
  have H8 := Lib.hid (Blk.fresh w1 62 (hdC l v c f o))
  generalize w1.alloc (.cells (hdC l v c f o) 62) = w2 at H6 H7 H8 ⊢
  obtain ⟨c0, c1, c2, c3, c4, y0, y1, y2, y3, y4⟩ := Rw5.row H7.out
  obtain ⟨d0, d1, d2, d3, d4, _⟩ := Rw5.row H8.out
  go_wp2_with fail
  refine (is_any l v c f o lv 0 1 70 _).mono ?_
  rintro x w3 ⟨rfl, hbb⟩
  have HB2 := Lib.hid (H6.out.trans (hbb.mono H6.out.size))
  have HK2 := Lib.hid (H7.out.below hbb H7.out.lt)
  have HH2 := Lib.hid (H8.out.below hbb H8.out.lt)
  rw [HI.out]
  clear hbb c0 c1 c2 c3 c4 y0 y1 y2 y3 y4 d0 d1 d2 d3 d4
  obtain ⟨d0, d1, d2, d3, d4, _⟩ := Rw5.row HH2.out
  have hcv := back_new (P := Try.prog) (src := 60) (dst := 9) (e := 5) w3 #[.int .u8 (f : Int)] [UInt8.ofNat f] 1 1 (by simp only [byteVals, List.map_cons, List.map_nil]; rw [ofNat_toNat _ HF2.out]) rfl Try.underlying60 Try.underlying5 Try.underlying9
  rw [HFB.out] at hcv
  go_wp2_with fail
  refine (split_blk fb widthsF _ _ 3 _ _ _ _ (fresh_second _ _ _ _) rfl HSF.out rfl rfl HFS.out (by simp)).mono ?_
  rintro x w4 ⟨A1, k1, rfl, hr1, hb4⟩
  have HB4 := Lib.hid (((HB2.out.alloc HB2.out.size (.cells #[.int .u8 (f : Int)] 5)).alloc (by have := HB2.out.size; simp; omega) (.cells #[.int .i64 1, .int .i64 4, .int .i64 3] 3)).trans (hb4.mono (by have := HB2.out.size; simp; omega)))
  have HK4 := Lib.hid (((HK2.out.alloc (.cells #[.int .u8 (f : Int)] 5)).alloc (.cells #[.int .i64 1, .int .i64 4, .int .i64 3] 3)).below hb4 ((HK2.out.alloc _).alloc _).lt)
  have HR1 := Lib.hid hr1
  clear hb4 hr1 hcv d0 d1 d2 d3 d4
  go_wp2_with fail
  refine (split_blk cb widthsC _ _ 3 _ _ _ _ (Blk.fresh _ _ _) rfl HSC.out rfl rfl HCZ.out (by simp)).mono ?_
  rintro x w5 ⟨A2, k2, rfl, hr2, hb5⟩
  have HB5 := Lib.hid ((HB4.out.alloc HB4.out.size (.cells #[.int .i64 32, .int .i64 3, .int .i64 13] 3)).trans (hb5.mono (by have := HB4.out.size; simp; omega)))
  have HK5 := Lib.hid ((HK4.out.alloc (.cells #[.int .i64 32, .int .i64 3, .int .i64 13] 3)).below hb5 (HK4.out.alloc _).lt)
  obtain ⟨a2, rfl, l2, hcell2⟩ := hr2 (by simp [nums])
  have hr1' := (HR1.out.below ((Below.refl w4.heap.size w4).alloc (Nat.le_refl _) (.cells #[.int .i64 32, .int .i64 3, .int .i64 13] 3))).below (hb5.mono (by simp))
  obtain ⟨a1, rfl, l1, hcell1⟩ := hr1' (by simp [nums])
  have l1' : a1.block < w5.heap.size := Nat.lt_of_lt_of_le l1 (by have := hb5.size; simp at this; omega)
  have e0 := hcell1 0 _ rfl
  have e1 := hcell1 1 _ rfl
  have e2 := hcell1 2 _ rfl
  have f0 := hcell2 0 _ rfl
  have f1 := hcell2 1 _ rfl
  have f2 := hcell2 2 _ rfl
  simp [Addr.add] at e0 e1 e2 f0 f1 f2
  have L1 := Lib.hid l1'
  have L2 := Lib.hid l2
  clear hb5 hr1' hcell1 hcell2 l1 l1' l2
  obtain ⟨c0, c1, c2, c3, c4, w0', w1', w2', w3', w4'⟩ := Rw5.row HK5.out
  go_wp2_with fail
  refine (noughts_at tl w5 HZ.out HTM.out).mono ?_
  rintro x w6 ⟨rfl, rfl⟩
  go_wp2
  (try simp only [Exit.inBlock, Exit.then]); refine bodyPost_ret (results_row2 rfl _ _ w.heap.size 48 _ (0, 0) _ rfl (Rw5.blk_set HK5.out _ _ _ _ _) Try.underlying48 rfl info_cmsg) rfl ?_
  exact ⟨rfl, Rw5.below_set HB5.out (Nat.le_refl _) _ _ _ _ _⟩
end Go.Proofs.Ytlbnigdindpnfaa.Cc
