/-
  Plan: far ends, addresses and ends of a plan that may be: the walk.
-/
import Derived.Test.YtoiggajjbjcabaaPlM
namespace Go.Proofs.Ytoiggajjbjcabaa.Pn
open Go.RowKit Go.Maps Go.Proofs.Ytoiggajjbjcabaa.Bt Go.Proofs.Ytoiggajjbjcabaa.Mm Go.Proofs.Ytoiggajjbjcabaa.Fl Go.Proofs.Ytoiggajjbjcabaa.Tg
set_option linter.unusedVariables false
theorem not_group {n : Nat} {k : Nat} (hk : k < 16) (h : n = 2199023255553 + k ∨ n = 6597069766657 + k) : Mc.groupB n = false ∧ Mc.mayB n = true := by
  unfold Mc.groupB Mc.mayB
  refine ⟨?_, decide_eq_true (by omega)⟩
  rw [decide_eq_true (show n < 281474976710656 by omega), Bool.true_and]
  have : n / 1099511627776 % 2 = 0 := by omega
  rw [this]
  rfl
def ownN (p : Pl) (k : Nat) : Int := if p.ow < k then 1 else 0
def atN (p : Pl) (k : Nat) : Int := if (k : Int) = p.no then 0 else k
theorem own_zero {p : Pl} (h : 0 ≤ p.ow) : ownN p 0 = 0 := if_neg (by omega)
theorem at_zero {p : Pl} (h : 3 ≤ p.no) : atN p 0 = 0 := if_neg (by omega)
theorem wf_u64 (n : Nat) (h : n < 18446744073709551616) : (Lit.int .u64 (n : Int)).wf = true := by
  have e1 : IntKind.u64.min = 0 := by decide
  have e2 : IntKind.u64.max = 18446744073709551615 := by decide
  simp only [Lit.wf, e1, e2, Bool.and_eq_true, decide_eq_true_eq]
  omega
theorem wf_u16 (n : Nat) (h : n < 65536) : (Lit.int .u16 (n : Int)).wf = true := by
  have e1 : IntKind.u16.min = 0 := by decide
  have e2 : IntKind.u16.max = 65535 := by decide
  simp only [Lit.wf, e1, e2, Bool.and_eq_true, decide_eq_true_eq]
  omega

set_option maxRecDepth 100000 in
set_option maxHeartbeats 8000000 in
theorem rings_walk (p : Pl) (w : World) (hp : Pw p) : Calls Try.prog 5 #[plV p] w fun x w' => x = .returned (.bool true) ∧ Below w.heap.size w w' := by
  have HP := Lib.hid hp
  clear hp
  have HA0 := Lib.hid (Blk.fresh w 24 (plC p))
  have HB0 := Lib.hid ((Below.refl w.heap.size w).alloc (Nat.le_refl _) (.cells (plC p) 24))
  by_cases hc : chk p = 0
  case neg =>
    obtain ⟨c, hcc⟩ : ∃ c, chk p = c := ⟨_, rfl⟩
    have hz : ((c : Int) != 0) = true := by rw [← hcc]; simpa using hc
    have HC := Lib.hid hcc
    clear hcc hc
    go_enter Try.func5, Try.ntmps5
    go_upto_region 1 with (fail)
    generalize w.alloc (.cells (plC p) 24) = w0 at HA0 HB0 ⊢
    go_wp2_with (refine wpList_loadG rfl 24 _ rfl _ rfl _ (plC _) _ _ HA0.out Try.underlying24 rfl (info_p _) ?_)
    refine (check_at p w0 HC.out).mono ?_
    rintro x w1 ⟨rfl, hb⟩
    have HB1 := Lib.hid (HB0.out.trans (hb.mono HB0.out.size))
    clear hb
    go_wp2_with fail
    refine (awake16 w1).mono ?_
    rintro x w2 ⟨rfl, hb⟩
    have HB2 := Lib.hid (HB1.out.trans (hb.mono HB1.out.size))
    clear hb
    go_wp2
    go_ret
    exact ⟨rfl, HB2.out⟩
  case pos =>
    have HC := Lib.hid hc
    have hA := okA_of hc
    unfold okA at hA
    obtain ⟨hn1, hn2, ho1, ho2, -⟩ := hA
    clear hc
    go_enter Try.func5, Try.ntmps5
    go_upto_region 1 with (fail)
    generalize w.alloc (.cells (plC p) 24) = w0 at HA0 HB0 ⊢
    go_wp2_with (refine wpList_loadG rfl 24 _ rfl _ rfl _ (plC _) _ _ HA0.out Try.underlying24 rfl (info_p _) ?_)
    refine (check_0 p w0 HP.out HC.out).mono ?_
    rintro x w1 ⟨rfl, hb⟩
    have HA1 := Lib.hid (HA0.out.below hb HA0.out.lt)
    have HB1 := Lib.hid (HB0.out.trans (hb.mono HB0.out.size))
    clear hb
    have hmm := @run_makeMap Try.prog
    go_upto_region 5 with (fail)
    clear hmm
    have hgb := HA1.out.lt
    have HA2 := Lib.hid ((HA1.out.alloc (.map #[] 0)).alloc (.map #[] 0))
    have HM2 := Lib.hid ((Ms.new .u64 37 w1).alloc (.map #[] 0))
    have HE2 : Hid (Ms .u16 22 ((w1.alloc (.map #[] 0)).alloc (.map #[] 0)) (w1.heap.size + 1) []) := Lib.hid (by have h := Ms.new .u16 22 (w1.alloc (.map #[] 0)); simpa using h)
    have HB2 := Lib.hid ((HB1.out.alloc HB1.out.size (.map #[] 0)).alloc (Nat.le_trans HB1.out.size (by simp)) (.map #[] 0))
    clear HA1 HB1 HA0 HB0
    generalize (w1.alloc (.map #[] 0)).alloc (.map #[] 0) = w2 at HA2 HM2 HE2 HB2 ⊢
    generalize w1.heap.size = b at hgb HM2 HE2 ⊢
    cases cs HA2.out
    go_wp2_with fail
    go_loopw [5, 6, 27] (fun ow at1 i wr => ∃ k : Nat, (k : Int) ≤ p.no ∧ i = .int .i64 k ∧ ow = .int .i64 (ownN p k) ∧ at1 = .int .i64 (atN p k) ∧ Blk wr w.heap.size 24 (plC p) ∧ Ms .u64 37 wr b (S1 k) ∧ Ms .u16 22 wr (b + 1) (E2 (2 * k)) ∧ Below w.heap.size w wr) (fun _ _ i _ => p.no.toNat - (intOf i).toNat)
    case atStart => exact ⟨0, by omega, rfl, by rw [own_zero ho1], by rw [at_zero hn1], HA2.out, HM2.out, HE2.out, HB2.out⟩
    case round =>
      obtain ⟨k, hk, rfl, rfl, rfl, ha, hm, he, hb⟩ := hrel
      have HA3 := Lib.hid ha
      have HM3 := Lib.hid hm
      have HE3 := Lib.hid he
      have HB3 := Lib.hid hb
      clear ha hm he hb HA2 HM2 HE2 HB2
      by_cases hlt : (k : Int) < p.no
      · have hh : hasP p k := ⟨HC.out, by omega, hlt⟩
        have hk16 : k < 16 := by omega
        obtain ⟨na, hna⟩ : ∃ na : Nat, na = 2199023255553 + k := ⟨_, rfl⟩
        obtain ⟨nb, hnb⟩ : ∃ nb : Nat, nb = 6597069766657 + k := ⟨_, rfl⟩
        have ena : (na : Int) = 2199023255553 + (k : Int) := by omega
        have enb : (nb : Int) = 6597069766657 + (k : Int) := by omega
        have HNA := Lib.hid (show addR 2199023255553 p k = (na : Int) by unfold addR; rw [if_pos hh, ena])
        have HNB := Lib.hid (show addR 6597069766657 p k = (nb : Int) by unfold addR; rw [if_pos hh, enb])
        have HN1 := Lib.hid (show (na : Int) ∉ S1 k by rw [ena]; exact node_new (by omega))
        have HN2 := Lib.hid (show (nb : Int) ∉ (na : Int) :: S1 k by rw [ena, enb]; exact host_new (by omega))
        have HS := Lib.hid (show (nb : Int) :: (na : Int) :: S1 k = S1 (k + 1) by rw [ena, enb]; rfl)
        have HLN := Lib.hid (show (S1 k).length < 999 by rw [S1_len]; omega)
        have HWA := Lib.hid (wf_u64 na (by omega))
        have HWB := Lib.hid (wf_u64 nb (by omega))
        have HGA := Lib.hid (not_group hk16 (.inl hna))
        have HGB := Lib.hid (not_group hk16 (.inr hnb))
        have HH := Lib.hid hh
        have bna : na < 18446744073709551616 := by omega
        have bnb : nb < 18446744073709551616 := by omega
        clear ena enb hna hnb hh
        rw [show atN p k = (k : Int) from if_neg (by omega)]
        obtain ⟨o0, ho0⟩ : ∃ o0, ownN p k = o0 := ⟨_, rfl⟩
        rw [ho0]
        have HO := Lib.hid ho0
        clear ho0
        go_wp2_with (refine wpList_loadG rfl 24 _ rfl _ rfl _ (plC _) _ _ HA3.out Try.underlying24 rfl (info_p _) ?_)
        refine (node_at p k wr HP.out HNA.out).mono ?_
        rintro x w5 ⟨rfl, hb⟩
        have HA5 := Lib.hid (HA3.out.below hb HA3.out.lt)
        have HM5 := Lib.hid (HM3.out.on hb)
        have HE5 := Lib.hid (HE3.out.on hb)
        have HB5 := Lib.hid (HB3.out.trans (hb.mono HB3.out.size))
        clear hb HA3 HM3 HE3 HB3
        go_upto_region 10 with (first | (at_lookup; refine wpList_lk rfl _ _ 45 rfl .u64 37 Try.underlying37 Try.underlying45 b _ (na : Int) rfl rfl HM5.out HWA.out ?_; intro c6 hwc6 hz6) | (at_mapUpdate; refine wpList_up rfl _ _ _ 45 rfl .u64 37 Try.underlying37 Try.underlying45 b _ (na : Int) _ rfl rfl rfl HM5.out HWA.out (wrap64_wf _) HN1.out (by have := HLN.out; omega) ?_; intro w6 hm hg))
        have HM6 := Lib.hid hm
        have HA6 := Lib.hid (HA5.out.grown hg (by intro e; injection e; omega))
        have HE6 := Lib.hid (HE5.out.grown hg (by intro e; injection e; omega))
        have HB6 := Lib.hid (HB5.out.grown hg HB5.out.size (fun k hk => by injection hk; omega))
        clear hm hg HA5 HM5 HE5 HB5
        go_wp2_with (refine wpList_loadG rfl 24 _ rfl _ rfl _ (plC _) _ _ HA6.out Try.underlying24 rfl (info_p _) ?_)
        refine (host_at p k w6 HP.out HNB.out).mono ?_
        rintro x w7 ⟨rfl, hb⟩
        have HA7 := Lib.hid (HA6.out.below hb HA6.out.lt)
        have HM7 := Lib.hid (HM6.out.on hb)
        have HE7 := Lib.hid (HE6.out.on hb)
        have HB7 := Lib.hid (HB6.out.trans (hb.mono HB6.out.size))
        clear hb HA6 HM6 HE6 HB6
        go_upto_region 11 with (first | (at_lookup; refine wpList_lk rfl _ _ 45 rfl .u64 37 Try.underlying37 Try.underlying45 b _ (nb : Int) rfl rfl HM7.out HWB.out ?_; intro c8 hwc8 hz8) | (at_mapUpdate; refine wpList_up rfl _ _ _ 45 rfl .u64 37 Try.underlying37 Try.underlying45 b _ (nb : Int) _ rfl rfl rfl HM7.out HWB.out (wrap64_wf _) HN2.out (by have := HLN.out; simp; omega) ?_; intro w8 hm hg))
        rw [HS.out] at hm
        have HM8 := Lib.hid hm
        have HA8 := Lib.hid (HA7.out.grown hg (by intro e; injection e; omega))
        have HE8 := Lib.hid (HE7.out.grown hg (by intro e; injection e; omega))
        have HB8 := Lib.hid (HB7.out.grown hg HB7.out.size (fun k hk => by injection hk; omega))
        clear hm hg HA7 HM7 HE7 HB7
        go_wp2_with (refine wpList_loadG rfl 24 _ rfl _ rfl _ (plC _) _ _ HA8.out Try.underlying24 rfl (info_p _) ?_)
        refine (node_at p k w8 HP.out HNA.out).mono ?_
        rintro x w9 ⟨rfl, hb⟩
        have HA9 := Lib.hid (HA8.out.below hb HA8.out.lt)
        have HM9 := Lib.hid (HM8.out.on hb)
        have HE9 := Lib.hid (HE8.out.on hb)
        have HB9 := Lib.hid (HB8.out.trans (hb.mono HB8.out.size))
        clear hb HA8 HM8 HE8 HB8
        go_wp2_with fail
        refine (Mc.group_any na w9 bna).mono ?_
        rintro x wq1 ⟨rfl, rfl⟩
        rw [HGA.out.1]
        go_wp2_with (refine wpList_loadG rfl 24 _ rfl _ rfl _ (plC _) _ _ HA9.out Try.underlying24 rfl (info_p _) ?_)
        refine (host_at p k w9 HP.out HNB.out).mono ?_
        rintro x w10 ⟨rfl, hb⟩
        have HA10 := Lib.hid (HA9.out.below hb HA9.out.lt)
        have HM10 := Lib.hid (HM9.out.on hb)
        have HE10 := Lib.hid (HE9.out.on hb)
        have HB10 := Lib.hid (HB9.out.trans (hb.mono HB9.out.size))
        clear hb HA9 HM9 HE9 HB9
        go_wp2_with fail
        refine (Mc.group_any nb w10 bnb).mono ?_
        rintro x wq2 ⟨rfl, rfl⟩
        rw [HGB.out.1]
        go_wp2_with (refine wpList_loadG rfl 24 _ rfl _ rfl _ (plC _) _ _ HA10.out Try.underlying24 rfl (info_p _) ?_)
        refine (node_at p k w10 HP.out HNA.out).mono ?_
        rintro x w11 ⟨rfl, hb⟩
        have HA11 := Lib.hid (HA10.out.below hb HA10.out.lt)
        have HM11 := Lib.hid (HM10.out.on hb)
        have HE11 := Lib.hid (HE10.out.on hb)
        have HB11 := Lib.hid (HB10.out.trans (hb.mono HB10.out.size))
        clear hb HA10 HM10 HE10 HB10
        go_wp2_with fail
        refine (Mc.may_b true na w11 HGA.out.2).mono ?_
        rintro x wq3 ⟨rfl, rfl⟩
        go_wp2_with (refine wpList_loadG rfl 24 _ rfl _ rfl _ (plC _) _ _ HA11.out Try.underlying24 rfl (info_p _) ?_)
        refine (host_at p k w11 HP.out HNB.out).mono ?_
        rintro x w12 ⟨rfl, hb⟩
        have HA12 := Lib.hid (HA11.out.below hb HA11.out.lt)
        have HM12 := Lib.hid (HM11.out.on hb)
        have HE12 := Lib.hid (HE11.out.on hb)
        have HB12 := Lib.hid (HB11.out.trans (hb.mono HB11.out.size))
        clear hb HA11 HM11 HE11 HB11
        go_wp2_with fail
        refine (Mc.may_b true nb w12 HGB.out.2).mono ?_
        rintro x wq4 ⟨rfl, rfl⟩
        go_wp2_with fail
        go_loopw [66] (fun j ws => ∃ jj : Nat, jj ≤ 2 ∧ j = .int .i64 jj ∧ Blk ws w.heap.size 24 (plC p) ∧ Ms .u64 37 ws b (S1 (k + 1)) ∧ Ms .u16 22 ws (b + 1) (E2 (2 * k + jj)) ∧ Below w.heap.size w ws) (fun j _ => 2 - (intOf j).toNat)
        case atStart => exact ⟨0, by omega, rfl, HA12.out, HM12.out, HE12.out, HB12.out⟩
        case round =>
          obtain ⟨jj, hj, rfl, ha, hm, he, hb⟩ := hrel
          have HA13 := Lib.hid ha
          have HM13 := Lib.hid hm
          have HE13 := Lib.hid he
          have HB13 := Lib.hid hb
          clear ha hm he hb HA12 HM12 HE12 HB12
          by_cases hj2 : jj < 2
          · obtain ⟨ne, hne⟩ : ∃ ne : Nat, ne = 2 * k + jj + 1 := ⟨_, rfl⟩
            have ene : (ne : Int) = ((2 * k + jj : Nat) : Int) + 1 := by omega
            have HEN := Lib.hid (show endR p k jj = (ne : Int) by unfold endR; rw [if_pos HH.out, if_pos (by omega), ene]; omega)
            have HNE := Lib.hid (show (ne : Int) ∉ E2 (2 * k + jj) by rw [ene]; exact end_new _)
            have HES := Lib.hid (show (ne : Int) :: E2 (2 * k + jj) = E2 (2 * k + (jj + 1)) by rw [ene]; rfl)
            have HLE := Lib.hid (show (E2 (2 * k + jj)).length < 1000 by rw [E2_len]; omega)
            have HWE := Lib.hid (wf_u16 ne (by omega))
            clear ene hne
            obtain ⟨n, q, hf⟩ : ∃ n q, farR p k jj = (n, q) := ⟨_, _, rfl⟩
            have hff := far_far HH.out (by omega) hf
            have HF := Lib.hid hf
            have HFF := Lib.hid hff.1
            have hne2 := int_no hff.2.1
            clear hf hff
            go_wp2_with (refine wpList_loadG rfl 24 _ rfl _ rfl _ (plC _) _ _ HA13.out Try.underlying24 rfl (info_p _) ?_)
            refine (end_at p k jj wr HP.out HEN.out).mono ?_
            rintro x w14 ⟨rfl, hb⟩
            have HA14 := Lib.hid (HA13.out.below hb HA13.out.lt)
            have HM14 := Lib.hid (HM13.out.on hb)
            have HE14 := Lib.hid (HE13.out.on hb)
            have HB14 := Lib.hid (HB13.out.trans (hb.mono HB13.out.size))
            clear hb HA13 HM13 HE13 HB13
            go_upto_region 17 with (first | (at_lookup; refine wpList_lk rfl _ _ 46 rfl .u16 22 Try.underlying22 Try.underlying46 (b + 1) _ (ne : Int) rfl rfl HE14.out HWE.out ?_; intro c15 hwc15 hz15) | (at_mapUpdate; refine wpList_up rfl _ _ _ 46 rfl .u16 22 Try.underlying22 Try.underlying46 (b + 1) _ (ne : Int) _ rfl rfl rfl HE14.out HWE.out (wrap64_wf _) HNE.out HLE.out ?_; intro w15 hm hg))
            rw [HES.out] at hm
            have HE15 := Lib.hid hm
            have HA15 := Lib.hid (HA14.out.grown hg (by intro e; injection e; omega))
            have HM15 := Lib.hid (HM14.out.grown hg (by intro e; injection e; omega))
            have HB15 := Lib.hid (HB14.out.grown hg HB14.out.size (fun k hk => by injection hk; omega))
            clear hm hg HA14 HM14 HE14 HB14
            go_wp2_with (refine wpList_loadG rfl 24 _ rfl _ rfl _ (plC _) _ _ HA15.out Try.underlying24 rfl (info_p _) ?_)
            refine (far_at p k jj w15 HP.out HF.out).mono ?_
            rintro x w16 ⟨rfl, hb⟩
            have HA16 := Lib.hid (HA15.out.below hb HA15.out.lt)
            have HM16 := Lib.hid (HM15.out.on hb)
            have HE16 := Lib.hid (HE15.out.on hb)
            have HB16 := Lib.hid (HB15.out.trans (hb.mono HB15.out.size))
            clear hb HA15 HM15 HE15 HB15
            go_wp2_with (refine wpList_loadG rfl 24 _ rfl _ rfl _ (plC _) _ _ HA16.out Try.underlying24 rfl (info_p _) ?_)
            refine (far_at p n q w16 HP.out HFF.out).mono ?_
            rintro x w17 ⟨rfl, hb⟩
            have HA17 := Lib.hid (HA16.out.below hb HA16.out.lt)
            have HM17 := Lib.hid (HM16.out.on hb)
            have HE17 := Lib.hid (HE16.out.on hb)
            have HB17 := Lib.hid (HB16.out.trans (hb.mono HB16.out.size))
            clear hb HA16 HM16 HE16 HB16
            go_wp2
            go_roundw
            case rel => exact ⟨jj + 1, by omega, by go_num, HA17.out, HM17.out, HE17.out, HB17.out⟩
            case measure => simp [intOf]; omega
          · obtain rfl : jj = 2 := by omega
            have HE2x := Lib.hid (show Ms .u16 22 wr (b + 1) (E2 (2 * (k + 1))) from HE13.out)
            clear HE13
            have HE13 := HE2x
            clear HE2x
            obtain ⟨m, hm⟩ : ∃ m, farR p k 1 = (m, 0) := ⟨_, far_east HH.out⟩
            have HFA := Lib.hid (show atN p (k + 1) = m by have h := far_east HH.out; rw [hm] at h; cases h; unfold atN; split <;> split <;> omega)
            have HFE := Lib.hid hm
            clear hm
            by_cases how : (k : Int) = p.ow
            · have HR := Lib.hid (role_own HH.out how)
              have hr2 : ∃ e, farR p p.ow 1 = (m, e) ∧ roleR p m = (2, e) ∧ e = 0 := ⟨0, by rw [← how]; exact HFE.out, (role_next (by rw [← how]; exact HH.out) (by rw [← how]; exact HFE.out)).1, rfl⟩
              obtain ⟨e, -, hrm, he0⟩ := hr2
              rw [he0] at hrm
              have HRM := Lib.hid hrm
              clear hrm he0
              have hoz : o0 = 0 := by rw [← HO.out]; exact if_neg (by omega)
              have HO1 := Lib.hid (show ownN p (k + 1) = 1 from if_pos (by omega))
              subst hoz
              clear how
              go_wp2_with (refine wpList_loadG rfl 24 _ rfl _ rfl _ (plC _) _ _ HA13.out Try.underlying24 rfl (info_p _) ?_)
              refine (role_at p k wr HP.out HR.out).mono ?_
              rintro x w18 ⟨rfl, hb⟩
              have HA18 := Lib.hid (HA13.out.below hb HA13.out.lt)
              have HM18 := Lib.hid (HM13.out.on hb)
              have HE18 := Lib.hid (HE13.out.on hb)
              have HB18 := Lib.hid (HB13.out.trans (hb.mono HB13.out.size))
              clear hb HA13 HM13 HE13 HB13
              go_wp2_with (refine wpList_loadG rfl 24 _ rfl _ rfl _ (plC _) _ _ HA18.out Try.underlying24 rfl (info_p _) ?_)
              refine (far_at p k 1 w18 HP.out HFE.out).mono ?_
              rintro x w19 ⟨rfl, hb⟩
              have HA19 := Lib.hid (HA18.out.below hb HA18.out.lt)
              have HM19 := Lib.hid (HM18.out.on hb)
              have HE19 := Lib.hid (HE18.out.on hb)
              have HB19 := Lib.hid (HB18.out.trans (hb.mono HB18.out.size))
              clear hb HA18 HM18 HE18 HB18
              go_wp2_with (refine wpList_loadG rfl 24 _ rfl _ rfl _ (plC _) _ _ HA19.out Try.underlying24 rfl (info_p _) ?_)
              refine (role_at p m w19 HP.out HRM.out).mono ?_
              rintro x w20 ⟨rfl, hb⟩
              have HA20 := Lib.hid (HA19.out.below hb HA19.out.lt)
              have HM20 := Lib.hid (HM19.out.on hb)
              have HE20 := Lib.hid (HE19.out.on hb)
              have HB20 := Lib.hid (HB19.out.trans (hb.mono HB19.out.size))
              clear hb HA19 HM19 HE19 HB19
              go_wp2_with (refine wpList_loadG rfl 24 _ rfl _ rfl _ (plC _) _ _ HA20.out Try.underlying24 rfl (info_p _) ?_)
              refine (far_at p k 1 w20 HP.out HFE.out).mono ?_
              rintro x w21 ⟨rfl, hb⟩
              have HA21 := Lib.hid (HA20.out.below hb HA20.out.lt)
              have HM21 := Lib.hid (HM20.out.on hb)
              have HE21 := Lib.hid (HE20.out.on hb)
              have HB21 := Lib.hid (HB20.out.trans (hb.mono HB20.out.size))
              clear hb HA20 HM20 HE20 HB20
              go_wp2
              go_roundw
              case rel => exact ⟨k + 1, by omega, by go_num, by rw [HO1.out], by rw [HFA.out], HA21.out, HM21.out, HE21.out, HB21.out⟩
              case measure => simp [intOf]; omega
            · obtain ⟨r1, r2, hr⟩ : ∃ r1 r2, roleR p k = (r1, r2) := ⟨_, _, rfl⟩
              have hr1 := int_no (role_other HH.out how hr)
              have HR := Lib.hid hr
              have HO1 := Lib.hid (show ownN p (k + 1) = o0 by rw [← HO.out]; unfold ownN; split <;> split <;> omega)
              clear hr how
              go_wp2_with (refine wpList_loadG rfl 24 _ rfl _ rfl _ (plC _) _ _ HA13.out Try.underlying24 rfl (info_p _) ?_)
              refine (role_at p k wr HP.out HR.out).mono ?_
              rintro x w18 ⟨rfl, hb⟩
              have HA18 := Lib.hid (HA13.out.below hb HA13.out.lt)
              have HM18 := Lib.hid (HM13.out.on hb)
              have HE18 := Lib.hid (HE13.out.on hb)
              have HB18 := Lib.hid (HB13.out.trans (hb.mono HB13.out.size))
              clear hb HA13 HM13 HE13 HB13
              go_wp2_with (refine wpList_loadG rfl 24 _ rfl _ rfl _ (plC _) _ _ HA18.out Try.underlying24 rfl (info_p _) ?_)
              refine (far_at p k 1 w18 HP.out HFE.out).mono ?_
              rintro x w21 ⟨rfl, hb⟩
              have HA21 := Lib.hid (HA18.out.below hb HA18.out.lt)
              have HM21 := Lib.hid (HM18.out.on hb)
              have HE21 := Lib.hid (HE18.out.on hb)
              have HB21 := Lib.hid (HB18.out.trans (hb.mono HB18.out.size))
              clear hb HA18 HM18 HE18 HB18
              go_wp2
              go_roundw
              case rel => exact ⟨k + 1, by omega, by go_num, by rw [HO1.out], by rw [HFA.out], HA21.out, HM21.out, HE21.out, HB21.out⟩
              case measure => simp [intOf]; omega
      · have hk2 : (k : Int) = p.no := by omega
        rw [show ownN p k = 1 from if_pos (by omega), show atN p k = 0 from if_pos hk2]
        have HL1 := Lib.hid (S1_len k)
        have HL2 := Lib.hid (E2_len (2 * k))
        obtain ⟨L, hL⟩ : ∃ L : Int, L = 2 * p.no := ⟨_, rfl⟩
        have v1 : IntKind.i64.wrap (2 * p.no) = L := by rw [hL]; exact wrap_small (by omega) (by omega)
        have HLL := Lib.hid (show ((2 * k : Nat) : Int) = L by rw [hL]; omega)
        have HZ := Lib.hid (end_none (2 * k))
        clear hL
        go_wp2_with fail
        refine (awake16 wr).mono ?_
        rintro x w4 ⟨rfl, hb⟩
        have HA4 := Lib.hid (HA3.out.below hb HA3.out.lt)
        have HM4 := Lib.hid (HM3.out.on hb)
        have HE4 := Lib.hid (HE3.out.on hb)
        have HB4 := Lib.hid (HB3.out.trans (hb.mono HB3.out.size))
        clear hb HA3 HM3 HE3 HB3
        have hl1 := HM4.out.len Try.underlying45 3
        have hl2 := HE4.out.len Try.underlying46 3
        rw [HL1.out, HLL.out] at hl1
        rw [HL2.out, HLL.out] at hl2
        obtain ⟨c, hlk, -, hc0⟩ := HE4.out.look (x := 0) Try.underlying22 Try.underlying46 (by decide)
        have hc := hc0 HZ.out
        subst hc
        clear hc0 hk hlt hk2
        cases cs HA4.out
        go_wp2
        go_ret
        exact ⟨rfl, HB4.out⟩
end Go.Proofs.Ytoiggajjbjcabaa.Pn
