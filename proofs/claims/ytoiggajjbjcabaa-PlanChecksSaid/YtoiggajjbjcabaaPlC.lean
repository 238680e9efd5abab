/-
  Plan: what is wrong with a plan, the document's answer, way by way.
-/
import Derived.Test.YtoiggajjbjcabaaPlA
namespace Go.Proofs.Ytoiggajjbjcabaa.Pn
open Go.RowKit Go.Proofs.Ytoiggajjbjcabaa.Mm Go.Proofs.Ytoiggajjbjcabaa.Tg
set_option linter.unusedVariables false

def lim (j : Nat) : Int := if j = 7 then 1048577 else 1048576
def ok8 (l : List Int) (k : Nat) : Prop := ∀ (j : Nat) (z : Int), j < k → l[j]? = some z → 1 ≤ z ∧ z ≤ lim j
def z8 (p : Pl) (h : Int) : List Int := [p.iv, p.gu, p.re, p.wa, p.ga, p.pe, p.ag, h]
theorem ok8_zero (l : List Int) : ok8 l 0 := fun j z h => by omega
theorem ok8_succ {l : List Int} {k : Nat} {z : Int} (h : ok8 l k) (hz : l[k]? = some z) (h1 : 1 ≤ z) (h2 : z ≤ lim k) : ok8 l (k + 1) := by
  intro j y hj hy
  by_cases e : j = k
  · subst e; rw [hz] at hy; cases hy; exact ⟨h1, h2⟩
  · exact h j y (by omega) hy
theorem ok8_not {l : List Int} {k : Nat} {z : Int} (hz : l[k]? = some z) (hk : k < 8) (h : ¬ (1 ≤ z ∧ z ≤ lim k)) : ¬ ok8 l 8 := fun hh => h (hh k z hk hz)
theorem allT_one (p : Pl) : allT 1 (tks p) = true ↔ tk 1 p.iv ∧ tk 1 p.gu ∧ tk 1 p.re ∧ tk 1 p.wa ∧ tk 1 p.ga ∧ tk 1 p.pe ∧ tk 1 p.ag := by simp [allT, tks]
theorem allT_two (p : Pl) : allT 0 [p.ho] = true ↔ tk 0 p.ho := by simp [allT]
theorem ok8_iff (p : Pl) : ok8 (z8 p (p.ho + 1)) 8 ↔ allT 1 (tks p) = true ∧ allT 0 [p.ho] = true := by
  constructor
  · intro h
    have h0 := h 0 p.iv (by omega) rfl
    have h1 := h 1 p.gu (by omega) rfl
    have h2 := h 2 p.re (by omega) rfl
    have h3 := h 3 p.wa (by omega) rfl
    have h4 := h 4 p.ga (by omega) rfl
    have h5 := h 5 p.pe (by omega) rfl
    have h6 := h 6 p.ag (by omega) rfl
    have h7 := h 7 (p.ho + 1) (by omega) rfl
    rw [allT_one, allT_two]
    unfold tk
    simp only [lim] at h0 h1 h2 h3 h4 h5 h6 h7
    omega
  · rintro ⟨h1, h2⟩ j z hj hz
    rw [allT_one] at h1
    rw [allT_two] at h2
    unfold tk at h1 h2
    match j, hj with
    | 0, _ => simp [z8] at hz; subst hz; simp [lim]; omega
    | 1, _ => simp [z8] at hz; subst hz; simp [lim]; omega
    | 2, _ => simp [z8] at hz; subst hz; simp [lim]; omega
    | 3, _ => simp [z8] at hz; subst hz; simp [lim]; omega
    | 4, _ => simp [z8] at hz; subst hz; simp [lim]; omega
    | 5, _ => simp [z8] at hz; subst hz; simp [lim]; omega
    | 6, _ => simp [z8] at hz; subst hz; simp [lim]; omega
    | 7, _ => simp [z8] at hz; subst hz; simp [lim]; omega
theorem ok8_far (p : Pl) (h : Int) (hh : h < 1 ∨ 1048577 < h) : ¬ ok8 (z8 p h) 8 := fun h8 => by
  have h7 := h8 7 h (by omega) rfl
  simp only [lim] at h7
  omega

set_option maxRecDepth 100000 in
set_option maxHeartbeats 2000000 in
theorem rcheck_a1 (p : Pl) (m : Int) (w : World) (hm : IntKind.i64.wrap (p.no - 1) = m) (a1 : decide (p.no < 3) = true) :
    Calls Try.prog 8 #[plV p] w fun x w' => x = .returned (.int .i64 4) ∧ Below w.heap.size w w' := by
  have HA := Lib.hid (Blk.fresh w 29 (plC p))
  have HB := Lib.hid ((Below.refl w.heap.size w).alloc (Nat.le_refl _) (.cells (plC p) 29))
  go_enter Try.func8, Try.ntmps8
  go_upto_region 1 with (fail)
  generalize w.alloc (.cells (plC p) 29) = w0 at HA HB ⊢
  cases cs HA.out
  go_wp2
  go_ret
  exact ⟨rfl, HB.out⟩
set_option maxRecDepth 100000 in
set_option maxHeartbeats 2000000 in
theorem rcheck_a2 (p : Pl) (m : Int) (w : World) (hm : IntKind.i64.wrap (p.no - 1) = m) (a1 : decide (p.no < 3) = false) (a2 : decide (16 < p.no) = true) :
    Calls Try.prog 8 #[plV p] w fun x w' => x = .returned (.int .i64 4) ∧ Below w.heap.size w w' := by
  have HA := Lib.hid (Blk.fresh w 29 (plC p))
  have HB := Lib.hid ((Below.refl w.heap.size w).alloc (Nat.le_refl _) (.cells (plC p) 29))
  go_enter Try.func8, Try.ntmps8
  go_upto_region 1 with (fail)
  generalize w.alloc (.cells (plC p) 29) = w0 at HA HB ⊢
  cases cs HA.out
  go_wp2
  go_ret
  exact ⟨rfl, HB.out⟩
set_option maxRecDepth 100000 in
set_option maxHeartbeats 2000000 in
theorem rcheck_b1 (p : Pl) (m : Int) (w : World) (hm : IntKind.i64.wrap (p.no - 1) = m) (a1 : decide (p.no < 3) = false) (a2 : decide (16 < p.no) = false) (b1 : decide (p.ow < 0) = true) :
    Calls Try.prog 8 #[plV p] w fun x w' => x = .returned (.int .i64 4) ∧ Below w.heap.size w w' := by
  have HA := Lib.hid (Blk.fresh w 29 (plC p))
  have HB := Lib.hid ((Below.refl w.heap.size w).alloc (Nat.le_refl _) (.cells (plC p) 29))
  go_enter Try.func8, Try.ntmps8
  go_upto_region 1 with (fail)
  generalize w.alloc (.cells (plC p) 29) = w0 at HA HB ⊢
  cases cs HA.out
  go_wp2
  go_ret
  exact ⟨rfl, HB.out⟩
set_option maxRecDepth 100000 in
set_option maxHeartbeats 2000000 in
theorem rcheck_b2 (p : Pl) (m : Int) (w : World) (hm : IntKind.i64.wrap (p.no - 1) = m) (a1 : decide (p.no < 3) = false) (a2 : decide (16 < p.no) = false) (b1 : decide (p.ow < 0) = false) (b2 : decide (m < p.ow) = true) :
    Calls Try.prog 8 #[plV p] w fun x w' => x = .returned (.int .i64 4) ∧ Below w.heap.size w w' := by
  have HA := Lib.hid (Blk.fresh w 29 (plC p))
  have HB := Lib.hid ((Below.refl w.heap.size w).alloc (Nat.le_refl _) (.cells (plC p) 29))
  go_enter Try.func8, Try.ntmps8
  go_upto_region 1 with (fail)
  generalize w.alloc (.cells (plC p) 29) = w0 at HA HB ⊢
  cases cs HA.out
  go_wp2
  go_ret
  exact ⟨rfl, HB.out⟩
set_option maxRecDepth 100000 in
set_option maxHeartbeats 2000000 in
theorem rcheck_l1 (p : Pl) (m : Int) (w : World) (hm : IntKind.i64.wrap (p.no - 1) = m) (a1 : decide (p.no < 3) = false) (a2 : decide (16 < p.no) = false) (b1 : decide (p.ow < 0) = false) (b2 : decide (m < p.ow) = false) (l1 : decide (7 < (p.lv : Int)) = true) :
    Calls Try.prog 8 #[plV p] w fun x w' => x = .returned (.int .i64 4) ∧ Below w.heap.size w w' := by
  have HA := Lib.hid (Blk.fresh w 29 (plC p))
  have HB := Lib.hid ((Below.refl w.heap.size w).alloc (Nat.le_refl _) (.cells (plC p) 29))
  go_enter Try.func8, Try.ntmps8
  go_upto_region 1 with (fail)
  generalize w.alloc (.cells (plC p) 29) = w0 at HA HB ⊢
  cases cs HA.out
  go_wp2
  go_ret
  exact ⟨rfl, HB.out⟩
set_option maxRecDepth 100000 in
set_option maxHeartbeats 2000000 in
theorem rcheck_d1 (p : Pl) (m : Int) (w : World) (hm : IntKind.i64.wrap (p.no - 1) = m) (a1 : decide (p.no < 3) = false) (a2 : decide (16 < p.no) = false) (b1 : decide (p.ow < 0) = false) (b2 : decide (m < p.ow) = false) (l1 : decide (7 < (p.lv : Int)) = false) (d1 : ((p.da : Int) == 0) = true) :
    Calls Try.prog 8 #[plV p] w fun x w' => x = .returned (.int .i64 5) ∧ Below w.heap.size w w' := by
  have HA := Lib.hid (Blk.fresh w 29 (plC p))
  have HB := Lib.hid ((Below.refl w.heap.size w).alloc (Nat.le_refl _) (.cells (plC p) 29))
  go_enter Try.func8, Try.ntmps8
  go_upto_region 1 with (fail)
  generalize w.alloc (.cells (plC p) 29) = w0 at HA HB ⊢
  cases cs HA.out
  go_wp2
  go_ret
  exact ⟨rfl, HB.out⟩
set_option maxRecDepth 100000 in
set_option maxHeartbeats 2000000 in
theorem rcheck_d2 (p : Pl) (m : Int) (w : World) (hm : IntKind.i64.wrap (p.no - 1) = m) (a1 : decide (p.no < 3) = false) (a2 : decide (16 < p.no) = false) (b1 : decide (p.ow < 0) = false) (b2 : decide (m < p.ow) = false) (l1 : decide (7 < (p.lv : Int)) = false) (d1 : ((p.da : Int) == 0) = false) (d2 : decide (4094 < (p.da : Int)) = true) :
    Calls Try.prog 8 #[plV p] w fun x w' => x = .returned (.int .i64 5) ∧ Below w.heap.size w w' := by
  have HA := Lib.hid (Blk.fresh w 29 (plC p))
  have HB := Lib.hid ((Below.refl w.heap.size w).alloc (Nat.le_refl _) (.cells (plC p) 29))
  go_enter Try.func8, Try.ntmps8
  go_upto_region 1 with (fail)
  generalize w.alloc (.cells (plC p) 29) = w0 at HA HB ⊢
  cases cs HA.out
  go_wp2
  go_ret
  exact ⟨rfl, HB.out⟩
set_option maxRecDepth 100000 in
set_option maxHeartbeats 2000000 in
theorem rcheck_d3 (p : Pl) (m : Int) (w : World) (hm : IntKind.i64.wrap (p.no - 1) = m) (a1 : decide (p.no < 3) = false) (a2 : decide (16 < p.no) = false) (b1 : decide (p.ow < 0) = false) (b2 : decide (m < p.ow) = false) (l1 : decide (7 < (p.lv : Int)) = false) (d1 : ((p.da : Int) == 0) = false) (d2 : decide (4094 < (p.da : Int)) = false) (d3 : ((p.ri : Int) == 0) = true) :
    Calls Try.prog 8 #[plV p] w fun x w' => x = .returned (.int .i64 5) ∧ Below w.heap.size w w' := by
  have HA := Lib.hid (Blk.fresh w 29 (plC p))
  have HB := Lib.hid ((Below.refl w.heap.size w).alloc (Nat.le_refl _) (.cells (plC p) 29))
  go_enter Try.func8, Try.ntmps8
  go_upto_region 1 with (fail)
  generalize w.alloc (.cells (plC p) 29) = w0 at HA HB ⊢
  cases cs HA.out
  go_wp2
  go_ret
  exact ⟨rfl, HB.out⟩
set_option maxRecDepth 100000 in
set_option maxHeartbeats 2000000 in
theorem rcheck_d4 (p : Pl) (m : Int) (w : World) (hm : IntKind.i64.wrap (p.no - 1) = m) (a1 : decide (p.no < 3) = false) (a2 : decide (16 < p.no) = false) (b1 : decide (p.ow < 0) = false) (b2 : decide (m < p.ow) = false) (l1 : decide (7 < (p.lv : Int)) = false) (d1 : ((p.da : Int) == 0) = false) (d2 : decide (4094 < (p.da : Int)) = false) (d3 : ((p.ri : Int) == 0) = false) (d4 : decide (4094 < (p.ri : Int)) = true) :
    Calls Try.prog 8 #[plV p] w fun x w' => x = .returned (.int .i64 5) ∧ Below w.heap.size w w' := by
  have HA := Lib.hid (Blk.fresh w 29 (plC p))
  have HB := Lib.hid ((Below.refl w.heap.size w).alloc (Nat.le_refl _) (.cells (plC p) 29))
  go_enter Try.func8, Try.ntmps8
  go_upto_region 1 with (fail)
  generalize w.alloc (.cells (plC p) 29) = w0 at HA HB ⊢
  cases cs HA.out
  go_wp2
  go_ret
  exact ⟨rfl, HB.out⟩
set_option maxRecDepth 100000 in
set_option maxHeartbeats 2000000 in
theorem rcheck_e1 (p : Pl) (m : Int) (w : World) (hm : IntKind.i64.wrap (p.no - 1) = m) (a1 : decide (p.no < 3) = false) (a2 : decide (16 < p.no) = false) (b1 : decide (p.ow < 0) = false) (b2 : decide (m < p.ow) = false) (l1 : decide (7 < (p.lv : Int)) = false) (d1 : ((p.da : Int) == 0) = false) (d2 : decide (4094 < (p.da : Int)) = false) (d3 : ((p.ri : Int) == 0) = false) (d4 : decide (4094 < (p.ri : Int)) = false) (e1 : ((p.da : Int) == (p.ri : Int)) = true) :
    Calls Try.prog 8 #[plV p] w fun x w' => x = .returned (.int .i64 5) ∧ Below w.heap.size w w' := by
  have HA := Lib.hid (Blk.fresh w 29 (plC p))
  have HB := Lib.hid ((Below.refl w.heap.size w).alloc (Nat.le_refl _) (.cells (plC p) 29))
  go_enter Try.func8, Try.ntmps8
  go_upto_region 1 with (fail)
  generalize w.alloc (.cells (plC p) 29) = w0 at HA HB ⊢
  cases cs HA.out
  go_wp2
  go_ret
  exact ⟨rfl, HB.out⟩
set_option maxRecDepth 100000 in
set_option maxHeartbeats 4000000 in
theorem rcheck_l (p : Pl) (m h R : Int) (w : World) (hm : IntKind.i64.wrap (p.no - 1) = m) (a1 : decide (p.no < 3) = false) (a2 : decide (16 < p.no) = false) (b1 : decide (p.ow < 0) = false) (b2 : decide (m < p.ow) = false) (l1 : decide (7 < (p.lv : Int)) = false) (d1 : ((p.da : Int) == 0) = false) (d2 : decide (4094 < (p.da : Int)) = false) (d3 : ((p.ri : Int) == 0) = false) (d4 : decide (4094 < (p.ri : Int)) = false) (e1 : ((p.da : Int) == (p.ri : Int)) = false) (hh : IntKind.i64.wrap (p.ho + 1) = h)
    (r4 : ¬ ok8 (z8 p h) 8 → R = 4) (rd : ¬ okD p → R = 4) (r0 : ok8 (z8 p h) 8 → okD p → R = 0) :
    Calls Try.prog 8 #[plV p] w fun x w' => x = .returned (.int .i64 R) ∧ Below w.heap.size w w' := by
  have R4 := Lib.hid r4
  have RD := Lib.hid rd
  have R0 := Lib.hid r0
  clear r4 rd r0
  have HA := Lib.hid (Blk.fresh w 29 (plC p))
  have HB := Lib.hid ((Below.refl w.heap.size w).alloc (Nat.le_refl _) (.cells (plC p) 29))
  go_enter Try.func8, Try.ntmps8
  go_upto_region 1 with (fail)
  generalize w.alloc (.cells (plC p) 29) = w0 at HA HB ⊢
  cases cs HA.out
  go_wp2_with fail
  have HC := Lib.hid (Blk.fresh w0 2 #[.int .i64 p.iv, .int .i64 p.gu, .int .i64 p.re, .int .i64 p.wa, .int .i64 p.ga, .int .i64 p.pe, .int .i64 p.ag, .int .i64 h])
  have HA1 := Lib.hid (HA.out.alloc (.cells #[.int .i64 p.iv, .int .i64 p.gu, .int .i64 p.re, .int .i64 p.wa, .int .i64 p.ga, .int .i64 p.pe, .int .i64 p.ag, .int .i64 h] 2))
  have HB1 := Lib.hid (HB.out.alloc HB.out.size (.cells #[.int .i64 p.iv, .int .i64 p.gu, .int .i64 p.re, .int .i64 p.wa, .int .i64 p.ga, .int .i64 p.pe, .int .i64 p.ag, .int .i64 h] 2))
  have HL := Lib.hid (show (#[.int .i64 p.iv, .int .i64 p.gu, .int .i64 p.re, .int .i64 p.wa, .int .i64 p.ga, .int .i64 p.pe, .int .i64 p.ag, .int .i64 h] : Array Value).toList = ks (z8 p h) from rfl)
  generalize w0.alloc (.cells #[.int .i64 p.iv, .int .i64 p.gu, .int .i64 p.re, .int .i64 p.wa, .int .i64 p.ga, .int .i64 p.pe, .int .i64 p.ag, .int .i64 h] 2) = w1 at HC HA1 HB1 ⊢
  generalize (#[.int .i64 p.iv, .int .i64 p.gu, .int .i64 p.re, .int .i64 p.wa, .int .i64 p.ga, .int .i64 p.pe, .int .i64 p.ag, .int .i64 h] : Array Value) = cc at HC HL ⊢
  clear hh hm
  cases cs HA1.out
  go_wp2_with fail
  go_loop [4] (fun i => ∃ k : Nat, k ≤ 8 ∧ i = .int .i64 k ∧ ok8 (z8 p h) k) (fun i => 8 - (intOf i).toNat)
  case atStart => exact ⟨0, by omega, rfl, ok8_zero _⟩
  case round =>
    obtain ⟨k, hk, rfl, hal⟩ := hrel
    by_cases hlt : k < 8
    · obtain ⟨z, hz⟩ : ∃ z, (z8 p h)[k]? = some z := ⟨_, List.getElem?_eq_getElem (show k < (z8 p h).length from hlt)⟩
      have c0 : w1.cell? ((⟨w0.heap.size, 0, none⟩ : Addr).add k) = some (.int .i64 z) := by
        rw [add_zero_block, HC.out.cell, ← Array.getElem?_toList, HL.out]
        simp [ks, hz]
      rw [add_zero_block] at c0
      have HAL := Lib.hid hal
      have HZ := Lib.hid hz
      clear hal hz
      by_cases h7 : k = 7
      · have d7 : ((k : Int) == 7) = true := by simp [h7]
        obtain ⟨q, hq⟩ : ∃ q : Bool, (decide (z < 1) || decide (1048577 < z)) = q := ⟨_, rfl⟩
        by_cases h1 : z < 1
        · have d1 : decide (z < 1) = true := decide_eq_true h1
          have HN := Lib.hid (ok8_not HZ.out hlt (by omega))
          clear h1 h7 hq
          go_wp2
          go_ret
          exact ⟨by rw [R4.out HN.out]; rfl, HB1.out⟩
        · have d1 : decide (z < 1) = false := decide_eq_false h1
          by_cases h2 : 1048577 < z
          · have d2 : decide (1048577 < z) = true := decide_eq_true h2
            have HN := Lib.hid (ok8_not HZ.out hlt (by rw [lim, if_pos h7]; omega))
            clear h1 h7 h2 hq
            go_wp2
            go_ret
            exact ⟨by rw [R4.out HN.out]; rfl, HB1.out⟩
          · have d2 : decide (1048577 < z) = false := decide_eq_false h2
            have HN := Lib.hid (ok8_succ HAL.out HZ.out (by omega) (by rw [lim, if_pos h7]; omega))
            clear h1 h7 h2 hq
            go_wp2
            go_round
            case rel => exact ⟨k + 1, by omega, by go_num, HN.out⟩
            case measure => simp [intOf]; omega
      · have d7 : ((k : Int) == 7) = false := by simpa using fun e => h7 (by omega)
        by_cases h1 : z < 1
        · have d1 : decide (z < 1) = true := decide_eq_true h1
          have HN := Lib.hid (ok8_not HZ.out hlt (by omega))
          clear h1 h7
          go_wp2
          go_ret
          exact ⟨by rw [R4.out HN.out]; rfl, HB1.out⟩
        · have d1 : decide (z < 1) = false := decide_eq_false h1
          by_cases h2 : 1048576 < z
          · have d2 : decide (1048576 < z) = true := decide_eq_true h2
            have HN := Lib.hid (ok8_not HZ.out hlt (by rw [lim, if_neg h7]; omega))
            clear h1 h7 h2
            go_wp2
            go_ret
            exact ⟨by rw [R4.out HN.out]; rfl, HB1.out⟩
          · have d2 : decide (1048576 < z) = false := decide_eq_false h2
            have HN := Lib.hid (ok8_succ HAL.out HZ.out (by omega) (by rw [lim, if_neg h7]; omega))
            clear h1 h7 h2
            go_wp2
            go_round
            case rel => exact ⟨k + 1, by omega, by go_num, HN.out⟩
            case measure => simp [intOf]; omega
    · obtain rfl : k = 8 := by omega
      have HAL := Lib.hid hal
      clear hal
      by_cases x1 : p.ro < 1
      · have q1 : decide (p.ro < 1) = true := decide_eq_true x1
        have HN := Lib.hid (RD.out (by unfold okD; omega))
        clear x1
        go_wp2
        go_ret
        exact ⟨by rw [HN.out]; rfl, HB1.out⟩
      · have q1 : decide (p.ro < 1) = false := decide_eq_false x1
        by_cases x2 : 1024 < p.ro
        · have q2 : decide (1024 < p.ro) = true := decide_eq_true x2
          have HN := Lib.hid (RD.out (by unfold okD; omega))
          clear x1 x2
          go_wp2
          go_ret
          exact ⟨by rw [HN.out]; rfl, HB1.out⟩
        · have q2 : decide (1024 < p.ro) = false := decide_eq_false x2
          by_cases x3 : p.qu < 1
          · have q3 : decide (p.qu < 1) = true := decide_eq_true x3
            have HN := Lib.hid (RD.out (by unfold okD; omega))
            clear x1 x2 x3
            go_wp2
            go_ret
            exact ⟨by rw [HN.out]; rfl, HB1.out⟩
          · have q3 : decide (p.qu < 1) = false := decide_eq_false x3
            by_cases x4 : 256 < p.qu
            · have q4 : decide (256 < p.qu) = true := decide_eq_true x4
              have HN := Lib.hid (RD.out (by unfold okD; omega))
              clear x1 x2 x3 x4
              go_wp2
              go_ret
              exact ⟨by rw [HN.out]; rfl, HB1.out⟩
            · have q4 : decide (256 < p.qu) = false := decide_eq_false x4
              have HN := Lib.hid (R0.out HAL.out (by unfold okD; omega))
              clear x1 x2 x3 x4
              go_wp2
              go_ret
              exact ⟨by rw [HN.out]; rfl, HB1.out⟩
theorem nat_zero {n : Nat} (h : ¬ n = 0) : ((n : Int) == 0) = false := by simpa using h
theorem nat_is_zero {n : Nat} (h : n = 0) : ((n : Int) == 0) = true := by simp [h]
theorem rcheck_any (p : Pl) (w : World) (hr : -9223372036854775808 ≤ p.ho ∧ p.ho ≤ 9223372036854775807) : Calls Try.prog 8 #[plV p] w fun x w' => x = .returned (.int .i64 (chk p : Nat)) ∧ Below w.heap.size w w' := by
  obtain ⟨m, hm⟩ : ∃ m, IntKind.i64.wrap (p.no - 1) = m := ⟨_, rfl⟩
  by_cases x1 : p.no < 3
  · rw [show chk p = 4 by unfold chk; rw [if_pos (by unfold okA; omega)]]
    exact rcheck_a1 p m w hm (decide_eq_true x1)
  by_cases x2 : 16 < p.no
  · rw [show chk p = 4 by unfold chk; rw [if_pos (by unfold okA; omega)]]
    exact rcheck_a2 p m w hm (decide_eq_false x1) (decide_eq_true x2)
  by_cases x3 : p.ow < 0
  · rw [show chk p = 4 by unfold chk; rw [if_pos (by unfold okA; omega)]]
    exact rcheck_b1 p m w hm (decide_eq_false x1) (decide_eq_false x2) (decide_eq_true x3)
  obtain rfl : m = p.no - 1 := by rw [← hm, IntKind.wrap_i64]; omega
  by_cases x4 : p.no - 1 < p.ow
  · rw [show chk p = 4 by unfold chk; rw [if_pos (by unfold okA; omega)]]
    exact rcheck_b2 p _ w hm (decide_eq_false x1) (decide_eq_false x2) (decide_eq_false x3) (decide_eq_true x4)
  by_cases x5 : 7 < p.lv
  · rw [show chk p = 4 by unfold chk; rw [if_pos (by unfold okA; omega)]]
    exact rcheck_l1 p _ w hm (decide_eq_false x1) (decide_eq_false x2) (decide_eq_false x3) (decide_eq_false x4) (decide_eq_true (by omega))
  have xA : okA p := by unfold okA; omega
  by_cases y1 : p.da = 0
  · rw [show chk p = 5 by unfold chk; rw [if_neg (fun h => h xA), if_pos (by unfold okB vl; omega)]]
    exact rcheck_d1 p _ w hm (decide_eq_false x1) (decide_eq_false x2) (decide_eq_false x3) (decide_eq_false x4) (decide_eq_false (by omega)) (nat_is_zero y1)
  by_cases y2 : 4094 < p.da
  · rw [show chk p = 5 by unfold chk; rw [if_neg (fun h => h xA), if_pos (by unfold okB vl; omega)]]
    exact rcheck_d2 p _ w hm (decide_eq_false x1) (decide_eq_false x2) (decide_eq_false x3) (decide_eq_false x4) (decide_eq_false (by omega)) (nat_zero y1) (decide_eq_true (by omega))
  by_cases y3 : p.ri = 0
  · rw [show chk p = 5 by unfold chk; rw [if_neg (fun h => h xA), if_pos (by unfold okB vl; omega)]]
    exact rcheck_d3 p _ w hm (decide_eq_false x1) (decide_eq_false x2) (decide_eq_false x3) (decide_eq_false x4) (decide_eq_false (by omega)) (nat_zero y1) (decide_eq_false (by omega)) (nat_is_zero y3)
  by_cases y4 : 4094 < p.ri
  · rw [show chk p = 5 by unfold chk; rw [if_neg (fun h => h xA), if_pos (by unfold okB vl; omega)]]
    exact rcheck_d4 p _ w hm (decide_eq_false x1) (decide_eq_false x2) (decide_eq_false x3) (decide_eq_false x4) (decide_eq_false (by omega)) (nat_zero y1) (decide_eq_false (by omega)) (nat_zero y3) (decide_eq_true (by omega))
  by_cases y5 : p.da = p.ri
  · rw [show chk p = 5 by unfold chk; rw [if_neg (fun h => h xA), if_pos (by unfold okB vl; omega)]]
    exact rcheck_e1 p _ w hm (decide_eq_false x1) (decide_eq_false x2) (decide_eq_false x3) (decide_eq_false x4) (decide_eq_false (by omega)) (nat_zero y1) (decide_eq_false (by omega)) (nat_zero y3) (decide_eq_false (by omega)) (eq_yes y5)
  have xB : okB p := by unfold okB vl; omega
  have key : ∀ {h : Int}, IntKind.i64.wrap (p.ho + 1) = h → (ok8 (z8 p h) 8 ↔ allT 1 (tks p) = true ∧ allT 0 [p.ho] = true) := by
    intro h hh
    by_cases hw : p.ho + 1 ≤ 9223372036854775807
    · obtain rfl : h = p.ho + 1 := by rw [← hh, IntKind.wrap_i64]; omega
      exact ok8_iff p
    · have e : h < 1 := by rw [← hh, IntKind.wrap_i64]; omega
      constructor
      · intro h8; exact absurd h8 (ok8_far p h (.inl e))
      · rintro ⟨-, h2⟩
        rw [allT_two] at h2
        unfold tk at h2
        omega
  obtain ⟨h, hh⟩ : ∃ h, IntKind.i64.wrap (p.ho + 1) = h := ⟨_, rfl⟩
  have kk := key hh
  refine rcheck_l p _ h _ w hm (decide_eq_false x1) (decide_eq_false x2) (decide_eq_false x3) (decide_eq_false x4) (decide_eq_false (by omega)) (nat_zero y1) (decide_eq_false (by omega)) (nat_zero y3) (decide_eq_false (by omega)) (eq_no y5) hh ?_ ?_ ?_
  · intro h8
    unfold chk
    rw [if_neg (fun h => h xA), if_neg (fun h => h xB)]
    by_cases t1 : allT 1 (tks p) = false
    · rw [if_pos t1]; rfl
    · by_cases t2 : allT 0 [p.ho] = false
      · rw [if_neg t1, if_pos t2]; rfl
      · exact absurd (kk.2 ⟨by simpa using t1, by simpa using t2⟩) h8
  · intro hd
    unfold chk
    rw [if_neg (fun h => h xA), if_neg (fun h => h xB), if_pos hd]
    split
    · rfl
    · split <;> rfl
  · intro h8 hd
    obtain ⟨t1, t2⟩ := kk.1 h8
    unfold chk
    rw [if_neg (fun h => h xA), if_neg (fun h => h xB), if_neg (by rw [t1]; decide), if_neg (by rw [t2]; decide), if_neg (fun h => h hd)]
    rfl

end Go.Proofs.Ytoiggajjbjcabaa.Pn
