/-
  Tables: both sides answer the same letters; the law's Awake.
-/
import Derived.Test.YtljkodfdiebfiaaFdbK
import Derived.Test.YtljkodfdiebfiaaFdbL
namespace Go.Proofs.Ytljkodfdiebfiaa.Fd
open Go.RowKit Go.Proofs.Ytljkodfdiebfiaa.Mm Go.Proofs.Ytljkodfdiebfiaa.Tg

/-- a map's block is no row of cells -/
theorem Mp.ne {w : World} {b g : Nat} {l : List Fr} {t : TypeId} {cs : Array Value} (h : Mp w b l) (hg : Blk w g t cs) : b ≠ g := by
  rintro rfl
  obtain ⟨es, clock, h1, _⟩ := h
  unfold Blk at hg
  rw [h1] at hg
  injection hg with e
  cases e
/-- what holds of rows at a tick -/
structure Inv (room now : Int) (l : List Fr) : Prop where
  rising : Rising l
  keys : ∀ x ∈ l, okK x
  seen : ∀ x ∈ l, 0 ≤ x.seen ∧ x.seen ≤ now
  full : (l.length : Int) ≤ room
theorem Inv.nil {room now : Int} (h : 0 ≤ room) : Inv room now [] := ⟨List.Pairwise.nil, by simp, by simp, by simpa using h⟩
theorem Inv.later {room now now' : Int} {l : List Fr} (h : Inv room now l) (hn : now ≤ now') : Inv room now' l := ⟨h.rising, h.keys, fun x hx => ⟨(h.seen x hx).1, Int.le_trans (h.seen x hx).2 hn⟩, h.full⟩
theorem Inv.filter {room now : Int} {l : List Fr} (h : Inv room now l) (p : Fr → Bool) : Inv room now (l.filter p) :=
  ⟨h.rising.filter _, fun x hx => h.keys x (List.mem_filter.1 hx).1, fun x hx => h.seen x (List.mem_filter.1 hx).1, by have := List.length_filter_le p l; have := h.full; omega⟩
theorem Inv.big {room now : Int} {l : List Fr} (h : Inv room now l) (hn : now ≤ 1099511627776) : ∀ x ∈ l, 0 ≤ x.seen ∧ x.seen ≤ 1099511627776 := fun x hx => ⟨(h.seen x hx).1, Int.le_trans (h.seen x hx).2 hn⟩
theorem Inv.small {room now : Int} {l : List Fr} (h : Inv room now l) (hr : room ≤ 1024) : l.length ≤ 1024 := by have := h.full; omega
theorem Inv.ins {room now p : Int} {v a : Nat} {l : List Fr} (h : Inv room now l) (hin : InK v a) (hn : 0 ≤ now) (hc : lrnE room l v a p = 0) : Inv room now (ins l ⟨v, a, p, now⟩) := by
  have hm := fun y => @mem_ins l h.rising ⟨v, a, p, now⟩ y
  refine ⟨rising_ins h.rising _, fun y hy => ?_, fun y hy => ?_, ?_⟩
  · rcases (hm y).1 hy with rfl | ⟨g, _⟩
    · exact hin
    · exact h.keys y g
  · rcases (hm y).1 hy with rfl | ⟨g, _⟩
    · exact ⟨hn, Int.le_refl _⟩
    · exact h.seen y g
  · rw [length_ins h.rising]
    unfold lrnE at hc
    by_cases z : v = 0 ∨ 4094 < v
    · rw [if_pos z] at hc; cases hc
    rw [if_neg z] at hc
    by_cases m : Mc.mayB a = false ∨ Mc.groupB a = true
    · rw [if_pos m] at hc; cases hc
    rw [if_neg m] at hc
    by_cases d : p < 0 ∨ 2 < p
    · rw [if_pos d] at hc; cases hc
    rw [if_neg d] at hc
    by_cases hf : findK l v a = none ∧ room ≤ (l.length : Int)
    · rw [if_pos hf] at hc; cases hc
    have hfull := h.full
    cases ho : findK l v a with
    | none =>
      have : ¬ room ≤ (l.length : Int) := fun g => hf ⟨ho, g⟩
      simp only [Option.isSome_none, Bool.false_eq_true, if_false]
      omega
    | some x => simpa using hfull

theorem learn_both {room age now p : Int} {v a : Nat} {l : List Fr} (h : Inv room now l) (hr : room ≤ 1024) (hn : 0 ≤ now) (hin : InK v a) : ∃ (c : Nat) (l' : List Fr), Inv room now l' ∧
    (∀ w b, Mp w b l → Calls Try.prog 7 #[tbV room age (some b), .int .i64 now, .int .u16 (v : Int), .int .u64 (a : Int), .int .i64 p] w fun e w' => ∃ b', e = .returned (.tuple #[tbV room age (some b'), .int .i64 (c : Int)]) ∧ Mp w' b' l' ∧ Below w.heap.size w w') ∧
    (∀ w A n k, Rd w w.heap.size A (rowCs l) → n = l.length → Calls Try.prog 8 #[rtV room age A n k, .int .i64 now, .int .u16 (v : Int), .int .u64 (a : Int), .int .i64 p] w fun e w' => ∃ A' n' k', e = .returned (.tuple #[rtV room age A' n' k', .int .i64 (c : Int)]) ∧ n' = l'.length ∧ Rd w' w'.heap.size A' (rowCs l') ∧ Below w.heap.size w w') := by
  obtain ⟨c, hc⟩ : ∃ c, lrnE room l v a p = c := ⟨_, rfl⟩
  have hl := h.small hr
  by_cases h0 : c = 0
  · subst h0
    refine ⟨0, ins l ⟨v, a, p, now⟩, h.ins hin hn hc, fun w b hm => learn_good hm h.keys h.rising (by unfold maxLen; omega) hin hc, fun w A n k hA hnl => ?_⟩
    refine (rlearn_good age hA hnl (by omega) hin hc).mono ?_
    rintro e w' ⟨A', k', he, hrd, hb⟩
    exact ⟨A', _, k', he, rfl, hrd, hb⟩
  · refine ⟨c, l, h, fun w b hm => ?_, fun w A n k hA hnl => ?_⟩
    · refine (learn_bad hm h.keys hin hc (by simp only [bne_iff_ne, ne_eq]; omega)).mono ?_
      rintro e w' ⟨he, hb⟩
      exact ⟨b, he, hm.on hb, hb⟩
    · refine (rlearn_bad age hA hnl (by omega) hin hc h0).mono ?_
      rintro e w' ⟨he, hb⟩
      exact ⟨A, n, k, he, hnl, (hA.below hb).more hb.size, hb⟩
theorem look_both {room age now : Int} {v a : Nat} {l : List Fr} (h : Inv room now l) (hr : room ≤ 1024) (hn : 0 ≤ now ∧ now ≤ 1099511627776) (ha : 0 ≤ age ∧ age ≤ 1048576) (hin : InK v a) : ∃ (q : Int) (k : Bool),
    (∀ w b, Mp w b l → Calls Try.prog 9 #[tbV room age (some b), .int .i64 now, .int .u16 (v : Int), .int .u64 (a : Int)] w fun e w' => e = .returned (.tuple #[.int .i64 q, .bool k]) ∧ Below w.heap.size w w') ∧
    (∀ w A n k', Rd w w.heap.size A (rowCs l) → n = l.length → Calls Try.prog 10 #[rtV room age A n k', .int .i64 now, .int .u16 (v : Int), .int .u64 (a : Int)] w fun e w' => e = .returned (.tuple #[.int .i64 q, .bool k]) ∧ Below w.heap.size w w') := by
  obtain ⟨q, k, hq⟩ : ∃ q k, lookR l v a now age = (q, k) := ⟨_, _, rfl⟩
  have hl := h.small hr
  exact ⟨q, k, fun w b hm => look_any hm h.keys hin (h.big hn.2) ha hq, fun w A n k' hA hnl => rlook_any hA hnl (by omega) (h.big hn.2) hn hq⟩
theorem sweep_both {room age now : Int} {l : List Fr} (h : Inv room now l) (hr : room ≤ 1024) (hn : 0 ≤ now ∧ now ≤ 1099511627776) (ha : 0 ≤ age ∧ age ≤ 1048576) : ∃ (l' : List Fr), Inv room now l' ∧
    (∀ w b, Mp w b l → Calls Try.prog 11 #[tbV room age (some b), .int .i64 now] w fun e w' => ∃ b', e = .returned (tbV room age (some b')) ∧ Mp w' b' l' ∧ Below w.heap.size w w') ∧
    (∀ w A n k', Rd w w.heap.size A (rowCs l) → n = l.length → Calls Try.prog 12 #[rtV room age A n k', .int .i64 now] w fun e w' => ∃ A' n' k', e = .returned (rtV room age A' n' k') ∧ n' = l'.length ∧ Rd w' w'.heap.size A' (rowCs l') ∧ Below w.heap.size w w') := by
  have hl := h.small hr
  refine ⟨sweepR l now age, h.filter _, fun w b hm => sweep_any hm h.rising h.keys (h.big hn.2) ha, fun w A n k' hA hnl => ?_⟩
  refine (rsweep_any hA hnl (by omega) (h.big hn.2) hn).mono ?_
  rintro e w' ⟨A', k', he, hrd, hb⟩
  exact ⟨A', _, k', he, rfl, hrd, hb⟩
theorem flush_both {room age now : Int} (port : Int) {l : List Fr} (h : Inv room now l) (hr : room ≤ 1024) : ∃ (l' : List Fr), Inv room now l' ∧
    (∀ w b, Mp w b l → Calls Try.prog 13 #[tbV room age (some b), .int .i64 port] w fun e w' => ∃ b', e = .returned (tbV room age (some b')) ∧ Mp w' b' l' ∧ Below w.heap.size w w') ∧
    (∀ w A n k', Rd w w.heap.size A (rowCs l) → n = l.length → Calls Try.prog 14 #[rtV room age A n k', .int .i64 port] w fun e w' => ∃ A' n' k', e = .returned (rtV room age A' n' k') ∧ n' = l'.length ∧ Rd w' w'.heap.size A' (rowCs l') ∧ Below w.heap.size w w') := by
  have hl := h.small hr
  refine ⟨flushR l port, h.filter _, fun w b hm => flush_any hm h.rising h.keys, fun w A n k' hA hnl => ?_⟩
  refine (rflush_any hA hnl (by omega)).mono ?_
  rintro e w' ⟨A', k', he, hrd, hb⟩
  exact ⟨A', _, k', he, rfl, hrd, hb⟩
theorem rows_at {room age now : Int} {b : Nat} {l : List Fr} {w : World} (h : Inv room now l) (hr : room ≤ 1024) (hm : Mp w b l) :
    Calls Try.prog 6 #[tbV room age (some b)] w fun e w' => ∃ A c, e = .returned (.slice A l.length c) ∧ Below w.heap.size w w' :=
  (rows_any hm h.rising h.keys (h.small hr)).mono fun _ _ ⟨A, c, he, _, hb⟩ => ⟨A, c, he, hb⟩
theorem same_at {room age room' age' now : Int} {b : Nat} {A : Option Addr} {c n : Nat} {l : List Fr} {w : World} (h : Inv room now l) (hr : room ≤ 1024) (hm : Mp w b l) (hA : Rd w w.heap.size A (rowCs l)) (hn : n = l.length) :
    Calls Try.prog 15 #[tbV room age (some b), rtV room' age' A n c] w fun e w' => e = .returned (.bool true) ∧ Below w.heap.size w w' :=
  same_any hm h.rising h.keys hA hn (by have := h.small hr; omega)
end Go.Proofs.Ytljkodfdiebfiaa.Fd
