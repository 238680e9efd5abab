/-
  The statement BurstTimes: when a burst speaks that is ticked at each tick, and the walk.
-/
import Derived.Test.YthhiagdncjpdcaaBuB
import Derived.Deep.CutBlock
namespace Go.Proofs.Ythhiagdncjpdcaa.Bu
open Go.RowKit Go.Proofs.Ythhiagdncjpdcaa.Mm Go.Proofs.Ythhiagdncjpdcaa.Tg Go.Proofs.Ythhiagdncjpdcaa.Lw
set_option linter.unusedSimpArgs false
set_option linter.unusedVariables false

/-- ahead of the tick k behind the begin: it speaks next at m, and has spoken s times (3: or more) -/
def Due (G P k m s : Int) : Prop := (k = 0 ∧ m = 0 ∧ s = 0) ∨ (0 < k ∧ k ≤ G ∧ m = G ∧ s = 1) ∨ (G < k ∧ k ≤ 2 * G ∧ m = 2 * G ∧ s = 2) ∨ (2 * G < k ∧ s = 3 ∧ ∃ j : Int, m = 2 * G + j * P ∧ m - P < k ∧ k ≤ m)
def Speaks (G P k : Int) : Prop := k = 0 ∨ k = G ∨ k = 2 * G ∨ (2 * G < k ∧ (k - 2 * G).tmod P = 0)
theorem due_mod {G P k m j : Int} (hP : 1 ≤ P) (hk : 2 * G < k) (hm : m = 2 * G + j * P) (h1 : m - P < k) (h2 : k ≤ m) : (k - 2 * G).tmod P = 0 ↔ k = m := by
  rw [Int.tmod_eq_emod_of_nonneg (by omega)]
  constructor
  · intro h
    have e : k - 2 * G = (k - m + P) + (j - 1) * P := by rw [Int.sub_mul]; omega
    rw [e, Int.add_mul_emod_self_right] at h
    by_cases hq : k - m + P < P
    · rw [Int.emod_eq_of_lt (by omega) hq] at h
      omega
    · omega
  · intro h
    rw [h, hm, show 2 * G + j * P - 2 * G = j * P by omega]
    exact Int.mul_emod_left _ _
theorem due_step {G P k m s : Int} (hG : okT G) (hP : okT P) (h : Due G P k m s) : ∃ (m' s' : Int) (y : Bool), Due G P (k + 1) m' s' ∧
    (if m ≤ k then m' = (if s < 2 then k + G else k + P) ∧ s' = (if s < 3 then s + 1 else 3) ∧ y = true else m' = m ∧ s' = s ∧ y = false) ∧ (y = true ↔ Speaks G P k) := by
  unfold okT at hG hP
  rcases h with ⟨rfl, rfl, rfl⟩ | ⟨h1, h2, rfl, rfl⟩ | ⟨h1, h2, rfl, rfl⟩ | ⟨h1, rfl, j, hm, h2, h3⟩
  · exact ⟨0 + G, 0 + 1, true, .inr (.inl (by omega)), by simp, iff_of_true rfl (.inl rfl)⟩
  · by_cases hk : k = m
    · subst hk
      exact ⟨k + k, 1 + 1, true, .inr (.inr (.inl (by omega))), by simp, iff_of_true rfl (.inr (.inl rfl))⟩
    · refine ⟨m, 1, false, .inr (.inl (by omega)), by rw [if_neg (by omega)]; exact ⟨rfl, rfl, rfl⟩, iff_of_false (by simp) ?_⟩
      rintro (h | h | h | h) <;> omega
  · by_cases hk : k = 2 * G
    · subst hk
      refine ⟨2 * G + P, 2 + 1, true, .inr (.inr (.inr ⟨by omega, by omega, 1, by omega, by omega, by omega⟩)), by simp, iff_of_true rfl (.inr (.inr (.inl rfl)))⟩
    · refine ⟨2 * G, 2, false, .inr (.inr (.inl (by omega))), by rw [if_neg (by omega)]; exact ⟨rfl, rfl, rfl⟩, iff_of_false (by simp) ?_⟩
      rintro (h | h | h | h) <;> omega
  · have hmod := due_mod (by omega) h1 hm h2 h3
    by_cases hk : k = m
    · refine ⟨k + P, 3, true, .inr (.inr (.inr ⟨by omega, rfl, j + 1, by rw [Int.add_mul]; omega, by omega, by omega⟩)), by rw [if_pos (by omega)]; simp, iff_of_true rfl (.inr (.inr (.inr ⟨h1, hmod.2 hk⟩)))⟩
    · refine ⟨m, 3, false, .inr (.inr (.inr ⟨by omega, rfl, j, hm, by omega, by omega⟩)), by rw [if_neg (by omega)]; exact ⟨rfl, rfl, rfl⟩, iff_of_false (by simp) ?_⟩
      rintro (h | h | h | h)
      · omega
      · omega
      · omega
      · exact hk (hmod.1 h.2)

set_option maxRecDepth 100000 in
set_option maxHeartbeats 8000000 in
theorem times_walk (a0 a1 st tk : Nat) (w : World) (h0 : a0 < 256) (h1 : a1 < 256) (h2 : st < 65536) (h3 : tk < 65536) :
    Calls Try.prog 6 #[.int .u8 (a0 : Int), .int .u8 (a1 : Int), .int .u16 (st : Int), .int .u16 (tk : Int)] w (Law1 w) := by
  obtain ⟨x, hx⟩ : ∃ x, x = a0 % 20 := ⟨_, rfl⟩
  obtain ⟨z, hz⟩ : ∃ z, z = a1 % 60 := ⟨_, rfl⟩
  obtain ⟨N, hN⟩ : ∃ N, N = tk % 500 := ⟨_, rfl⟩
  have x0 : (a0 : Int).tmod 20 = (x : Int) := by rw [hx]; rfl
  have z0 : (a1 : Int).tmod 60 = (z : Int) := by rw [hz]; rfl
  have n0 : (tk : Int).tmod 500 = (N : Int) := by rw [hN]; rfl
  have x1 : IntKind.u8.wrap (x : Int) = (x : Int) := by rw [IntKind.wrap_u8]; omega
  have z1 : IntKind.u8.wrap (z : Int) = (z : Int) := by rw [IntKind.wrap_u8]; omega
  have n1 : IntKind.u16.wrap (N : Int) = (N : Int) := by rw [IntKind.wrap_u16]; omega
  have x2 : IntKind.i64.wrap (x : Int) = (x : Int) := by rw [IntKind.wrap_i64]; omega
  have z2 : IntKind.i64.wrap (z : Int) = (z : Int) := by rw [IntKind.wrap_i64]; omega
  have n2 : IntKind.i64.wrap (N : Int) = (N : Int) := by rw [IntKind.wrap_i64]; omega
  obtain ⟨G, hG⟩ : ∃ G, G = (x : Int) + 1 := ⟨_, rfl⟩
  obtain ⟨P, hP⟩ : ∃ P, P = (z : Int) + 1 := ⟨_, rfl⟩
  have x3 : IntKind.i64.wrap ((x : Int) + 1) = G := by rw [IntKind.wrap_i64]; omega
  have z3 : IntKind.i64.wrap ((z : Int) + 1) = P := by rw [IntKind.wrap_i64]; omega
  have hG1 : 1 ≤ G ∧ G ≤ 20 := by omega
  have hP1 : 1 ≤ P ∧ P ≤ 60 := by omega
  have hN1 : N < 500 := by omega
  have OG : Hid (okT G) := Lib.hid (by unfold okT; omega)
  have OP : Hid (okT P) := Lib.hid (by unfold okT; omega)
  have s1 : IntKind.i64.wrap (st : Int) = (st : Int) := by rw [IntKind.wrap_i64]; omega
  clear hx hz hN hG hP
  go_enter Try.func6, Try.ntmps6
  go_wp2_with fail
  refine (new_ok G P w OG.out OP.out).mono ?_
  rintro e w1 ⟨rfl, hb⟩
  go_upto_region 5 with (fail)
  obtain ⟨w2, hw2, b2, l2⟩ : ∃ w2 : World, w2 = w1.alloc (.cells (buC G P 0 false 0) 50) ∧ Blk w2 w1.heap.size 50 (buC G P 0 false 0) ∧ Below w.heap.size w w2 := ⟨_, rfl, Blk.fresh _ _ _, hb.alloc hb.size _⟩
  rw [← hw2]
  have hwa : w.heap.size ≤ w1.heap.size := hb.size
  generalize w1.heap.size = a at b2 hwa ⊢
  have HA := Lib.hid b2; have HB := Lib.hid l2
  clear hw2 b2 l2 hb
  cases Rw5.row HA.out
  go_wp2_with fail
  refine (begin_at G P 0 false 0 (st : Int) w2).mono ?_
  rintro e w3 ⟨rfl, hb⟩
  have HA3 := Lib.hid (HA.out.below hb HA.out.lt)
  have HB3 := Lib.hid (HB.out.trans (hb.mono HB.out.size))
  clear hb HA HB
  cases Rw5.row HA3.out
  go_upto_region 6 with (fail)
  obtain ⟨w4, hw4, b4, l4⟩ : ∃ w4 : World, w4 = Rw5.set w3 a (.int .i64 G) (.int .i64 P) (.int .i64 (st : Int)) (.bool true) (.int .i64 0) ∧ Blk w4 a 50 (buC G P (st : Int) true 0) ∧ Below w.heap.size w w4 := ⟨_, rfl, Rw5.blk_set HA3.out _ _ _ _ _, Rw5.below_set HB3.out hwa _ _ _ _ _⟩
  dsimp only [Rw5.set] at hw4
  rw [← hw4]
  have HA := Lib.hid b4; have HB := Lib.hid l4
  clear hw4 b4 l4 HA3 HB3
  go_wp2_with fail
  go_loopw [42] (fun i wr => ∃ (k : Nat) (n m s : Int), k ≤ N ∧ i = .int .i64 k ∧ n = (st : Int) + m ∧ Due G P k m s ∧ Blk wr a 50 (buC G P n true s) ∧ Below w.heap.size w wr) (fun i _ => N - (intOf i).toNat)
  case atStart => exact ⟨0, st, 0, 0, Nat.zero_le _, rfl, by omega, .inl ⟨rfl, rfl, rfl⟩, HA.out, HB.out⟩
  case round =>
    obtain ⟨k, n, m, s, hk, rfl, hn, hdue, hA, hB⟩ := hrel
    clear HA HB
    have HA := Lib.hid hA; have HB := Lib.hid hB; have HD := Lib.hid hdue; have HN := Lib.hid hn
    clear hA hB hdue hn
    by_cases hlt : k < N
    · obtain ⟨m', s', y, hdue', hst, hy⟩ := due_step OG.out OP.out HD.out
      have HD' := Lib.hid hdue'; have HST := Lib.hid hst; have HY := Lib.hid hy
      clear hdue' hst hy
      obtain ⟨D, hD⟩ : ∃ D, D = 2 * G := ⟨_, rfl⟩
      have d1 : IntKind.i64.wrap (2 * G) = D := by rw [IntKind.wrap_i64]; omega
      have HDD := Lib.hid hD
      have hD1 : 0 < D ∧ D ≤ 40 := by omega
      clear hD
      go_upto_region 9 with (fail)
      go_cut [14] (fun s14 wx => s14 = .bool y ∧ wx = wr)
      case first =>
        have hSP := HY.out
        unfold Speaks at hSP
        rw [← HDD.out] at hSP
        by_cases q0 : (k : Int) = 0
        · have e0 : ((k : Int) == 0) = true := beq_iff_eq.2 q0
          have ey : y = true := hSP.2 (.inl q0)
          clear hSP q0
          go_wp2_with fail
          go_meet
          exact ⟨by rw [ey], rfl⟩
        have e0 : ((k : Int) == 0) = false := by simp only [beq_eq_false_iff_ne]; exact q0
        by_cases q1 : (k : Int) = G
        · have e1 : ((k : Int) == G) = true := beq_iff_eq.2 q1
          have ey : y = true := hSP.2 (.inr (.inl q1))
          clear hSP q0 q1
          go_wp2_with fail
          go_meet
          exact ⟨by rw [ey], rfl⟩
        have e1 : ((k : Int) == G) = false := by simp only [beq_eq_false_iff_ne]; exact q1
        by_cases q2 : (k : Int) = D
        · have e2 : ((k : Int) == D) = true := beq_iff_eq.2 q2
          have ey : y = true := hSP.2 (.inr (.inr (.inl q2)))
          clear hSP q0 q1 q2
          go_wp2_with fail
          go_meet
          exact ⟨by rw [ey], rfl⟩
        have e2 : ((k : Int) == D) = false := by simp only [beq_eq_false_iff_ne]; exact q2
        by_cases q3 : D < (k : Int)
        · have e3 : decide (D < (k : Int)) = true := decide_eq_true q3
          obtain ⟨X, hX⟩ : ∃ X, X = (k : Int) - D := ⟨_, rfl⟩
          have e4 : IntKind.i64.wrap ((k : Int) - D) = X := by rw [IntKind.wrap_i64]; omega
          obtain ⟨R, hR⟩ : ∃ R, R = X.tmod P := ⟨_, rfl⟩
          have hR0 : 0 ≤ R ∧ R < 60 := by
            rw [hR, Int.tmod_eq_emod_of_nonneg (by omega)]
            exact ⟨Int.emod_nonneg _ (by omega), Int.lt_of_lt_of_le (Int.emod_lt_of_pos _ (by omega)) (by omega)⟩
          have e5 : X.tmod P = R := hR.symm
          have e6 : IntKind.i64.wrap R = R := by rw [IntKind.wrap_i64]; omega
          have eP : (P == 0) = false := by simp only [beq_eq_false_iff_ne]; omega
          by_cases q7 : R = 0
          · have e7 : (R == 0) = true := beq_iff_eq.2 q7
            have ey : y = true := hSP.2 (.inr (.inr (.inr ⟨q3, by rw [← hX, ← hR]; exact q7⟩)))
            clear hSP q0 q1 q2 q3 q7 hR hX
            go_wp2_with fail
            go_meet
            exact ⟨by rw [ey], rfl⟩
          · have e7 : (R == 0) = false := by simp only [beq_eq_false_iff_ne]; exact q7
            have ey : y = false := by
              cases y with
              | false => rfl
              | true =>
                rcases hSP.1 rfl with h | h | h | h
                · exact absurd h q0
                · exact absurd h q1
                · exact absurd h q2
                · exact absurd (by rw [hR, hX]; exact h.2) q7
            clear hSP q0 q1 q2 q3 q7 hR hX
            go_wp2_with fail
            go_meet
            exact ⟨by rw [ey], rfl⟩
        · have e3 : decide (D < (k : Int)) = false := decide_eq_false q3
          have ey : y = false := by
            cases y with
            | false => rfl
            | true =>
              rcases hSP.1 rfl with h | h | h | h
              · exact absurd h q0
              · exact absurd h q1
              · exact absurd h q2
              · exact absurd h.1 q3
          clear hSP q0 q1 q2 q3
          go_wp2_with fail
          go_meet
          exact ⟨by rw [ey], rfl⟩
      case rest =>
        obtain ⟨rfl, rfl⟩ := hcut
        obtain ⟨u, hu⟩ : ∃ u, u = (st : Int) + (k : Int) := ⟨_, rfl⟩
        have u1 : IntKind.i64.wrap ((st : Int) + (k : Int)) = u := by rw [IntKind.wrap_i64]; omega
        have hs : 0 ≤ s ∧ s ≤ 3 := by
          have := HD.out
          unfold Due at this
          omega
        have HT : Hid (∀ w, Calls Try.prog 14 #[buV G P n true s, .int .i64 u] w fun x w' => x = .returned (.tuple #[buV G P ((st : Int) + m') true s', .bool y]) ∧ Below w.heap.size w w') := Lib.hid (fun w => tick_any G P n true s u w OG.out OP.out hs (by omega) (by
          have h := HST.out
          have hn := HN.out
          by_cases hmk : m ≤ (k : Int)
          · rw [if_pos hmk] at h
            rw [if_pos ⟨rfl, by omega⟩]
            obtain ⟨e1, e2, e3⟩ := h
            refine ⟨?_, e2, e3⟩
            rw [e1, hu]
            split <;> omega
          · rw [if_neg hmk] at h
            rw [if_neg (by intro hh; omega)]
            obtain ⟨e1, e2, e3⟩ := h
            exact ⟨by omega, e2, e3⟩))
        obtain ⟨n', hn'⟩ : ∃ n', n' = (st : Int) + m' := ⟨_, rfl⟩
        rw [← hn'] at HT
        have HN' := Lib.hid hn'
        clear hn' hu
        cases Rw5.row HA.out
        go_wp2_with fail
        refine (HT.out _).mono ?_
        rintro e w5 ⟨rfl, hb⟩
        have HA5 := Lib.hid (HA.out.below hb HA.out.lt)
        have HB5 := Lib.hid (HB.out.trans (hb.mono HB.out.size))
        clear hb
        go_upto_region 11 with (fail)
        obtain ⟨w6, hw6, b6, b6', l6⟩ : ∃ w6 : World, w6 = w5.alloc (.cells (buC G P n' true s') 50) ∧ Blk w6 a 50 (buC G P n true s) ∧ Blk w6 w5.heap.size 50 (buC G P n' true s') ∧ Below w.heap.size w w6 := ⟨_, rfl, HA5.out.alloc _, Blk.fresh _ _ _, HB5.out.alloc HB5.out.size _⟩
        rw [← hw6]
        have hac : a < w5.heap.size := HA5.out.lt
        generalize w5.heap.size = c at b6' hac ⊢
        have HA6 := Lib.hid b6; have HC6 := Lib.hid b6'; have HB6 := Lib.hid l6
        clear hw6 b6 b6' l6 HA5 HB5
        cases Rw5.row HA6.out
        cases Rw5.row HC6.out
        have ca : ¬ c = a := by omega
        have yy : (y != y) = false := by simp
        go_wp2
        go_roundw
        case rel => exact ⟨k + 1, n', m', s', by omega, by go_num, HN'.out, by have := HD'.out; exact_mod_cast this, Rw5.blk_set HA6.out _ _ _ _ _, Rw5.below_set HB6.out hwa _ _ _ _ _⟩
        case measure => simp [intOf]; omega
    · have hd : decide ((k : Int) < (N : Int)) = false := decide_eq_false (by omega)
      cases Rw5.row HA.out
      go_wp2_with fail
      refine (end_at G P n true s wr).mono ?_
      rintro e w5 ⟨rfl, hb⟩
      have HB5 := Lib.hid (HB.out.trans (hb.mono HB.out.size))
      clear hb
      go_wp2_with fail
      refine (tick_off G P 0 false 0 1073741824 w5 rfl).mono ?_
      rintro e w6 ⟨rfl, hb⟩
      have HB6 := Lib.hid (HB5.out.trans (hb.mono HB5.out.size))
      clear hb
      go_upto_region 16 with (fail)
      have HB7 := Lib.hid (HB6.out.alloc HB6.out.size (.cells (buC G P 0 false 0) 50))
      generalize w6.alloc (.cells (buC G P 0 false 0) 50) = w7 at HB7 ⊢
      go_wp2_with fail
      refine (awake15 w7).mono ?_
      rintro e w8 ⟨rfl, hb⟩
      have HB8 := Lib.hid (HB7.out.trans (hb.mono HB7.out.size))
      clear hb
      go_wp2
      go_ret
      exact ⟨rfl, HB8.out⟩
end Go.Proofs.Ythhiagdncjpdcaa.Bu
