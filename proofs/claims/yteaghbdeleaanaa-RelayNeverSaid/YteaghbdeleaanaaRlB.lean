/-
  Relay: plain facts: what rows keep, where a learned address is gone to; the law's ints.
-/
import Derived.Test.YteaghbdeleaanaaRlA
namespace Go.Proofs.Yteaghbdeleaanaa.Rl
open Go.RowKit Go.Proofs.Yteaghbdeleaanaa.Mm Go.Proofs.Yteaghbdeleaanaa.Fl Go.Proofs.Yteaghbdeleaanaa.Tg Go.Proofs.Yteaghbdeleaanaa.Fp Go.Proofs.Yteaghbdeleaanaa.Fd
set_option linter.unusedVariables false
set_option linter.unusedSimpArgs false

/-- what holds of rows at a tick -/
structure Iv (room now : Int) (l : List Fd.Fr) : Prop where
  rising : Rising l
  keys : ∀ x ∈ l, okK x
  seen : ∀ x ∈ l, 0 ≤ x.seen ∧ x.seen ≤ now
  full : (l.length : Int) ≤ room
  port : ∀ x ∈ l, 0 ≤ x.port ∧ x.port ≤ 2
theorem Iv.nil {room now : Int} (h : 0 ≤ room) : Iv room now [] := ⟨List.Pairwise.nil, by simp, by simp, by simpa using h, by simp⟩
theorem Iv.later {room now now' : Int} {l : List Fd.Fr} (h : Iv room now l) (hn : now ≤ now') : Iv room now' l := ⟨h.rising, h.keys, fun x hx => ⟨(h.seen x hx).1, Int.le_trans (h.seen x hx).2 hn⟩, h.full, h.port⟩
theorem Iv.big {room now : Int} {l : List Fd.Fr} (h : Iv room now l) (hn : now ≤ 1099511627776) : ∀ x ∈ l, 0 ≤ x.seen ∧ x.seen ≤ 1099511627776 := fun x hx => ⟨(h.seen x hx).1, Int.le_trans (h.seen x hx).2 hn⟩
theorem Iv.small {room now : Int} {l : List Fd.Fr} (h : Iv room now l) (hr : room ≤ 1024) : l.length ≤ 1024 := by have := h.full; omega
theorem lrn_ok {room p : Int} {v a : Nat} {l : List Fd.Fr} (hc : lrnE room l v a p = 0) : (0 ≤ p ∧ p ≤ 2) ∧ ¬ (findK l v a = none ∧ room ≤ (l.length : Int)) := by
  unfold lrnE at hc
  by_cases z : v = 0 ∨ 4094 < v
  · rw [if_pos z] at hc; cases hc
  rw [if_neg z] at hc
  by_cases m : Mc.mayB a = false ∨ Mc.groupB a = true
  · rw [if_pos m] at hc; cases hc
  rw [if_neg m] at hc
  by_cases d : p < 0 ∨ 2 < p
  · rw [if_pos d] at hc; cases hc
  rw [if_neg d] at hc
  by_cases hf : findK l v a = none ∧ room ≤ (l.length : Int)
  · rw [if_pos hf] at hc; cases hc
  exact ⟨by omega, hf⟩
theorem Iv.learn {room now p : Int} {v a : Nat} {l : List Fd.Fr} (h : Iv room now l) (hin : InK v a) (hn : 0 ≤ now) : Iv room now (learnR room l v a p now) := by
  unfold learnR
  by_cases hc : lrnE room l v a p = 0
  · rw [if_pos hc]
    obtain ⟨hp, hf⟩ := lrn_ok hc
    have hm := fun y => @mem_ins l h.rising ⟨v, a, p, now⟩ y
    refine ⟨rising_ins h.rising _, fun y hy => ?_, fun y hy => ?_, ?_, fun y hy => ?_⟩
    · rcases (hm y).1 hy with rfl | ⟨g, _⟩
      · exact hin
      · exact h.keys y g
    · rcases (hm y).1 hy with rfl | ⟨g, _⟩
      · exact ⟨hn, Int.le_refl _⟩
      · exact h.seen y g
    · rw [length_ins h.rising]
      have hfull := h.full
      cases ho : findK l v a with
      | none =>
        have : ¬ room ≤ (l.length : Int) := fun g => hf ⟨ho, g⟩
        simp only [Option.isSome_none, Bool.false_eq_true, if_false]
        omega
      | some x => simpa using hfull
    · rcases (hm y).1 hy with rfl | ⟨g, _⟩
      · exact hp
      · exact h.port y g
  · rw [if_neg hc]; exact h
theorem look_port {room now age q : Int} {v a : Nat} {l : List Fd.Fr} (h : Iv room now l) (hq : lookR l v a now age = (q, true)) : 0 ≤ q ∧ q ≤ 2 := by
  unfold lookR at hq
  cases ho : findK l v a with
  | none => rw [ho] at hq; simp at hq
  | some x =>
    rw [ho] at hq
    have hx : x ∈ l := List.mem_of_find?_eq_some ho
    by_cases hd : now - x.seen < age
    · simp only [hd, if_true, Prod.mk.injEq] at hq
      rw [← hq.1]; exact h.port x hx
    · simp [hd] at hq
/-- another address that is learned changes no look-up -/
theorem look_learn {room now age p : Int} {v s a : Nat} {l : List Fd.Fr} (h : Iv room now l) (hne : s ≠ a) : lookR (learnR room l v s p now) v a now age = lookR l v a now age := by
  unfold learnR
  by_cases hc : lrnE room l v s p = 0
  · rw [if_pos hc]
    unfold lookR
    rw [find_ins h.rising, if_neg (fun g => hne g.2)]
  · rw [if_neg hc]
theorem ref_in {i : Int} {a b : Bool} (h : refE a b i = 0) : (0 ≤ i ∧ i ≤ 2) ∧ opF a b i = true := by
  unfold refE at h
  by_cases z : i < 0 ∨ 2 < i
  · rw [if_pos z] at h; cases h
  rw [if_neg z] at h
  by_cases o : opF a b i = true
  · exact ⟨by omega, o⟩
  · rw [if_neg o] at h; cases h
theorem op_all {p : Int} (h : 0 ≤ p ∧ p ≤ 2) : opF false false p = true := by
  unfold opF
  by_cases h0 : p = 0
  · rw [if_pos h0]; rfl
  · rw [if_neg h0]
    by_cases h1 : p = 1
    · rw [if_pos h1]; rfl
    · rw [if_neg h1]; exact decide_eq_true (by omega)
/-- each port to which a frame goes is one to which data pass -/
theorem goes_da {a b g k fl : Bool} {i q : Int} {L : List Int} (h : goesR a b i g k q = (L, fl)) : ∀ o ∈ L, daF a b i o = true := by
  intro o ho
  unfold goesR at h
  by_cases z : (g || !k) = true
  · rw [if_pos z] at h
    injection h with e1 _
    subst e1
    exact (List.mem_filter.1 ho).2
  · rw [if_neg z] at h
    by_cases hd : daF a b i q = true
    · rw [if_pos hd] at h
      injection h with e1 _
      subst e1
      rw [List.mem_singleton] at ho
      subst ho; exact hd
    · rw [if_neg hd] at h
      injection h with e1 _
      subst e1
      cases ho
/-- of a port to which data pass: it isn't where the frame came from, and it is open -/
theorem da_facts {a b : Bool} {i o : Int} (h : daF a b i o = true) : (o == i) = false ∧ ((o = 0 ∧ a = false) ∨ (o = 1 ∧ b = false) ∨ o = 2) := by
  unfold daF at h
  simp only [Bool.and_eq_true, decide_eq_true_eq] at h
  obtain ⟨h1, _, h3⟩ := h
  refine ⟨by simp only [beq_eq_false_iff_ne, ne_eq]; omega, ?_⟩
  unfold opF at h3
  by_cases h0 : o = 0
  · rw [if_pos h0] at h3; exact .inl ⟨h0, by simpa using h3⟩
  · rw [if_neg h0] at h3
    by_cases g1 : o = 1
    · rw [if_pos g1] at h3; exact .inr (.inl ⟨g1, by simpa using h3⟩)
    · rw [if_neg g1] at h3; exact .inr (.inr (by simpa using h3))
/-- what was learned is gone to, and no other port -/
theorem back_ways {room now age bi pt q2 : Int} {v s gs : Nat} {kn k2 all gr : Bool} {l : List Fd.Fr} {L : List Int} (h : Iv room now l) (hh : refE false false bi = 0) (hp : lookR l v s now age = (pt, kn)) (hq : lookR (learnR room l v gs bi now) v s now age = (q2, k2)) (hg : Mc.groupB s = gr) (hL : goesR false false bi gr k2 q2 = (L, all)) :
    kn = false ∨ (kn = true ∧ gs = s) ∨ (kn = true ∧ gs ≠ s ∧ gr = true ∧ all = true) ∨ (kn = true ∧ gs ≠ s ∧ gr = false ∧ all = false ∧ L = [pt] ∧ pt ≠ bi) ∨ (kn = true ∧ gs ≠ s ∧ gr = false ∧ all = false ∧ L = [] ∧ pt = bi) := by
  cases kn with
  | false => exact .inl rfl
  | true =>
    by_cases e : gs = s
    · exact .inr (.inl ⟨rfl, e⟩)
    · rw [look_learn h e, hp] at hq
      injection hq with e1 e2
      subst e1 e2
      have hpt := look_port h hp
      have hbi := (ref_in hh).1
      cases gr with
      | true =>
        have : (outL false false bi 3, true) = (L, all) := hL
        injection this with _ e2
        exact .inr (.inr (.inl ⟨rfl, e, rfl, e2.symm⟩))
      | false =>
        have hL' : (if daF false false bi pt = true then ([pt], false) else ([], false)) = (L, all) := hL
        by_cases hb : pt = bi
        · rw [hb, da_self, if_neg (by simp)] at hL'
          injection hL' with e1 e2
          exact .inr (.inr (.inr (.inr ⟨rfl, e, rfl, e2.symm, e1.symm, hb⟩)))
        · have hd : daF false false bi pt = true := by
            unfold daF
            rw [op_all hpt, op_all hbi, decide_eq_true (show bi ≠ pt from fun z => hb z.symm)]; rfl
          rw [if_pos hd] at hL'
          injection hL' with e1 e2
          exact .inr (.inr (.inr (.inl ⟨rfl, e, rfl, e2.symm, e1.symm, hb⟩)))

/-- Go, whatever comes: letters for what it answers, and what holds of them -/
theorem go_any {now i : Int} {x y : Bool} {d s v : Nat} (p t : Nat) (dr : Bool) (bd : ByteArray) {l : List Fd.Fr} (hI : Iv 64 now l) (hn : 0 ≤ now) (hn' : now ≤ 1099511627776) (hs : InK v s) (hd : InK v d) :
    ∃ (f n : Nat) (l' : List Fd.Fr) (L : List Int) (fl : Bool), refE x y i = f ∧ Iv 64 now l' ∧ n = L.length ∧ n ≤ 3 ∧ (∀ o ∈ L, f = 0 ∧ daF x y i o = true) ∧ (f = 0 → l' = learnR 64 l v s i now ∧ ∃ q k, lookR l' v d now 1000 = (q, k) ∧ goesR x y i (Mc.groupB d) k q = (L, fl)) ∧
    ∀ w b, Mp w b l → Calls Try.prog 6 #[tbV 64 1000 (some b), shV x y, .int .i64 now, .int .i64 i, frV d s p dr v t bd] w fun e w' => ∃ b' A c, e = .returned (.tuple #[tbV 64 1000 (some b'), .slice A n c, .bool fl, .int .i64 (f : Int)]) ∧ Mp w' b' l' ∧ Rd w' w'.heap.size A (ints L) ∧ Below w.heap.size w w' := by
  obtain ⟨f, hf⟩ : ∃ f, refE x y i = f := ⟨_, rfl⟩
  by_cases h0 : f = 0
  · subst h0
    have hI' : Iv 64 now (learnR 64 l v s i now) := hI.learn hs hn
    obtain ⟨l', hl'⟩ : ∃ l', learnR 64 l v s i now = l' := ⟨_, rfl⟩
    rw [hl'] at hI'
    obtain ⟨q, k, hq⟩ : ∃ q k, lookR l' v d now 1000 = (q, k) := ⟨_, _, rfl⟩
    obtain ⟨L, fl, hL⟩ : ∃ L fl, goesR x y i (Mc.groupB d) k q = (L, fl) := ⟨_, _, rfl⟩
    have hlen : L.length ≤ 3 := by
      unfold goesR at hL
      by_cases z : (Mc.groupB d || !k) = true
      · rw [if_pos z] at hL
        injection hL with e1 _
        rw [← e1]; exact out_len x y i 3
      · rw [if_neg z] at hL
        by_cases hd : daF x y i q = true
        · rw [if_pos hd] at hL
          injection hL with e1 _
          rw [← e1]; simp
        · rw [if_neg hd] at hL
          injection hL with e1 _
          rw [← e1]; simp
    refine ⟨0, L.length, l', L, fl, hf, hI', rfl, hlen, fun o ho => ⟨rfl, goes_da hL o ho⟩, fun _ => ⟨hl'.symm, q, k, hq, hL⟩, fun w b hm => ?_⟩
    exact go_good hf hm hI.keys hI.rising (hI.small (by decide)) hs hl' hI'.keys (hI'.big hn') hd (by decide) hq rfl hL
  · refine ⟨f, 0, l, [], false, hf, hI, rfl, by decide, fun o ho => (by cases ho), fun h => absurd h h0, fun w b hm => ?_⟩
    refine (go_bad hf h0).mono ?_
    rintro e w' ⟨rfl, hb⟩
    exact ⟨b, none, 0, rfl, hm.on hb, Rd.none _ _ _, hb⟩

set_option maxRecDepth 100000 in
set_option maxHeartbeats 2000000 in
theorem ints_t {A B : Option Addr} {c c' n : Nat} {L : List Int} {w : World} (hA : Rd w w.heap.size A (ints L)) (hB : Rd w w.heap.size B (ints L)) (hn : n = L.length) (hl : n ≤ 1000) :
    Calls Try.prog 12 #[.slice A n c, .slice B n c'] w fun e w' => e = .returned (.bool true) ∧ Below w.heap.size w w' := by
  have HA := Lib.hid hA; have HB := Lib.hid hB; have HN := Lib.hid hn
  have hnn : ((n : Int) != (n : Int)) = false := by simp
  clear hA hB hn
  go_enter Try.func12, Try.ntmps12
  go_wp2_with fail
  go_loopw [13] (fun i wr => ∃ k : Nat, k ≤ n ∧ i = .int .i64 k ∧ Below w.heap.size w wr) (fun i _ => n - (intOf i).toNat)
  case atStart => exact ⟨0, Nat.zero_le _, rfl, Below.refl _ _⟩
  case round =>
    obtain ⟨k, hkn, rfl, hb⟩ := hrel
    have HW := Lib.hid hb
    clear hb
    by_cases hlt : k < n
    · have hkl : k < L.length := by rw [← HN.out]; exact hlt
      have hku : (ints L)[k]? = some (.int .i64 L[k]) := by simp [ints, hkl]
      obtain ⟨ad, rfl, hb1, hc1⟩ := HA.out.below HW.out (by simp [ints]; omega)
      obtain ⟨bd, rfl, hb2, hc2⟩ := HB.out.below HW.out (by simp [ints]; omega)
      have g1 := hc1 k _ hku
      have g2 := hc2 k _ hku
      generalize L[k] = z at g1 g2
      have hzz : (z != z) = false := by simp
      clear hc1 hc2 hku
      have hi2 : 0 ≤ (k : Int) ∧ (k : Int) < (n : Int) := by omega
      go_upto_region 6 with (fail)
      go_region
      go_wp2
      go_roundw
      case rel => exact ⟨k + 1, by omega, by go_num, HW.out.drew⟩
      case measure => simp [intOf]; omega
    · have hd : decide ((k : Int) < (n : Int)) = false := decide_eq_false (by omega)
      go_wp2
      go_ret
      exact ⟨rfl, HW.out⟩
end Go.Proofs.Yteaghbdeleaanaa.Rl
