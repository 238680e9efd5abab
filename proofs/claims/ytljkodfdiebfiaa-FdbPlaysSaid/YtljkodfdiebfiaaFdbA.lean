/-
  Plain lemmas on tables: rows by rising keys; a row put in; a row found; two tables that know the same.
-/
import Derived.Test.YtljkodfdiebfiaaFld
namespace Go.Proofs.Ytljkodfdiebfiaa.Fd

structure Fr where
  vlan : Nat
  addr : Nat
  port : Int
  seen : Int
deriving DecidableEq
/-- a row stands ahead of another one -/
def klt (x y : Fr) : Prop := x.vlan < y.vlan ∨ x.vlan = y.vlan ∧ x.addr < y.addr
instance (x y : Fr) : Decidable (klt x y) := by unfold klt; exact inferInstance
/-- two rows of one VLAN and address -/
def ksame (x y : Fr) : Prop := x.vlan = y.vlan ∧ x.addr = y.addr
instance (x y : Fr) : Decidable (ksame x y) := by unfold ksame; exact inferInstance
abbrev Rising (l : List Fr) : Prop := l.Pairwise klt
theorem klt_trans {x y z : Fr} (h : klt x y) (g : klt y z) : klt x z := by unfold klt at *; omega
theorem klt_not {x y : Fr} (h : klt x y) : ¬ klt y x := by unfold klt at *; omega
theorem klt_ne {x y : Fr} (h : klt x y) : ¬ ksame x y := by unfold klt ksame at *; omega
theorem klt_or (x y : Fr) : klt x y ∨ ksame x y ∨ klt y x := by unfold klt ksame; omega
/-- a row put in -/
def ins (l : List Fr) (x : Fr) : List Fr := l.takeWhile (fun y => decide (klt y x)) ++ x :: l.filter (fun y => decide (klt x y))
/-- the row of a VLAN and an address -/
def findK (l : List Fr) (v a : Nat) : Option Fr := l.find? (fun r => decide (r.vlan = v ∧ r.addr = a))

theorem taken {l : List Fr} (h : Rising l) (x : Fr) : l.takeWhile (fun y => decide (klt y x)) = l.filter (fun y => decide (klt y x)) := by
  induction l with
  | nil => rfl
  | cons y l ih =>
    obtain ⟨h1, h2⟩ := List.pairwise_cons.1 h
    by_cases hy : klt y x
    · rw [List.takeWhile_cons_of_pos (by simpa using hy), List.filter_cons_of_pos (by simpa using hy), ih h2]
    · rw [List.takeWhile_cons_of_neg (by simpa using hy), List.filter_cons_of_neg (by simpa using hy)]
      symm
      rw [List.filter_eq_nil_iff]
      intro z hz hz2
      have := h1 z hz
      simp only [decide_eq_true_eq] at hz2
      exact hy (klt_trans this hz2)
theorem mem_ins {l : List Fr} (h : Rising l) {x y : Fr} : y ∈ ins l x ↔ y = x ∨ y ∈ l ∧ ¬ ksame y x := by
  unfold ins
  rw [taken h]
  simp only [List.mem_append, List.mem_cons, List.mem_filter, decide_eq_true_eq]
  constructor
  · rintro (⟨h1, h2⟩ | rfl | ⟨h1, h2⟩)
    · exact .inr ⟨h1, klt_ne h2⟩
    · exact .inl rfl
    · exact .inr ⟨h1, fun e => klt_ne h2 ⟨e.1.symm, e.2.symm⟩⟩
  · rintro (rfl | ⟨h1, h2⟩)
    · exact .inr (.inl rfl)
    · rcases klt_or y x with g | g | g
      · exact .inl ⟨h1, g⟩
      · exact absurd g h2
      · exact .inr (.inr ⟨h1, g⟩)
theorem rising_ins {l : List Fr} (h : Rising l) (x : Fr) : Rising (ins l x) := by
  unfold ins
  rw [taken h]
  refine List.pairwise_append.2 ⟨h.filter _, List.pairwise_cons.2 ⟨fun y hy => ?_, h.filter _⟩, fun y hy z hz => ?_⟩
  · simpa using (List.mem_filter.1 hy).2
  · have h1 : klt y x := by simpa using (List.mem_filter.1 hy).2
    rcases List.mem_cons.1 hz with rfl | hz
    · exact h1
    · exact klt_trans h1 (by simpa using (List.mem_filter.1 hz).2)
theorem rising_filter {l : List Fr} (h : Rising l) (p : Fr → Bool) : Rising (l.filter p) := h.filter p
/-- of one VLAN and address there is one row -/
theorem one_row {l : List Fr} (h : Rising l) {x y : Fr} (hx : x ∈ l) (hy : y ∈ l) (he : ksame x y) : x = y := by
  induction l with
  | nil => cases hx
  | cons z l ih =>
    obtain ⟨h1, h2⟩ := List.pairwise_cons.1 h
    rcases List.mem_cons.1 hx with ex | ex
    · rcases List.mem_cons.1 hy with ey | ey
      · rw [ex, ey]
      · rw [ex] at he
        exact absurd he (klt_ne (h1 y ey))
    · rcases List.mem_cons.1 hy with ey | ey
      · rw [ey] at he
        exact absurd ⟨he.1.symm, he.2.symm⟩ (klt_ne (h1 x ex))
      · exact ih h2 ex ey
theorem find_some {l : List Fr} (h : Rising l) {v a : Nat} {x : Fr} : findK l v a = some x ↔ x ∈ l ∧ x.vlan = v ∧ x.addr = a := by
  unfold findK
  constructor
  · intro e
    have h1 := List.mem_of_find?_eq_some e
    have h2 := List.find?_some e
    simp only [decide_eq_true_eq] at h2
    exact ⟨h1, h2⟩
  · rintro ⟨h1, h2⟩
    cases e : l.find? (fun r => decide (r.vlan = v ∧ r.addr = a)) with
    | none =>
      have := List.find?_eq_none.1 e x h1
      simp only [decide_eq_true_eq] at this
      exact absurd h2 this
    | some y =>
      have g1 := List.mem_of_find?_eq_some e
      have g2 := List.find?_some e
      simp only [decide_eq_true_eq] at g2
      rw [one_row h g1 h1 ⟨g2.1.trans h2.1.symm, g2.2.trans h2.2.symm⟩]
theorem find_none {l : List Fr} {v a : Nat} : findK l v a = none ↔ ∀ x ∈ l, ¬ (x.vlan = v ∧ x.addr = a) := by
  unfold findK
  rw [List.find?_eq_none]
  simp
theorem opt_ext {α : Type} {a b : Option α} (h : ∀ x, a = some x ↔ b = some x) : a = b := by
  cases a with
  | none => cases b with
    | none => rfl
    | some y => exact absurd ((h y).2 rfl) (by simp)
  | some x => exact ((h x).1 rfl).symm
theorem find_ins {l : List Fr} (h : Rising l) (x : Fr) (v a : Nat) : findK (ins l x) v a = if x.vlan = v ∧ x.addr = a then some x else findK l v a := by
  refine opt_ext fun y => ?_
  rw [find_some (rising_ins h x), mem_ins h]
  split
  · rename_i e
    constructor
    · rintro ⟨rfl | ⟨_, h2⟩, h3⟩
      · rfl
      · exact absurd ⟨h3.1.trans e.1.symm, h3.2.trans e.2.symm⟩ h2
    · intro e2
      simp only [Option.some.injEq] at e2
      subst e2
      exact ⟨.inl rfl, e⟩
  · rename_i e
    rw [find_some h]
    constructor
    · rintro ⟨rfl | ⟨h1, _⟩, h3⟩
      · exact absurd h3 e
      · exact ⟨h1, h3⟩
    · rintro ⟨h1, h2⟩
      exact ⟨.inr ⟨h1, fun k => e ⟨k.1.symm.trans h2.1, k.2.symm.trans h2.2⟩⟩, h2⟩
theorem find_filter {l : List Fr} (h : Rising l) (p : Fr → Bool) (v a : Nat) : findK (l.filter p) v a = (findK l v a).filter p := by
  refine opt_ext fun y => ?_
  rw [find_some (rising_filter h p), List.mem_filter, Option.filter_eq_some_iff, find_some h]
  constructor
  · rintro ⟨⟨h1, h2⟩, h3⟩; exact ⟨⟨h1, h3⟩, h2⟩
  · rintro ⟨⟨h1, h3⟩, h2⟩; exact ⟨⟨h1, h2⟩, h3⟩
/-- two tables by rising keys that have the same rows -/
theorem same_rows : ∀ {l m : List Fr}, Rising l → Rising m → (∀ x, x ∈ l ↔ x ∈ m) → l = m
  | [], [], _, _, _ => rfl
  | [], y :: m, _, _, h => absurd ((h y).2 List.mem_cons_self) (by simp)
  | x :: l, [], _, _, h => absurd ((h x).1 List.mem_cons_self) (by simp)
  | x :: l, y :: m, hl, hm, h => by
    obtain ⟨l1, l2⟩ := List.pairwise_cons.1 hl
    obtain ⟨m1, m2⟩ := List.pairwise_cons.1 hm
    have e : x = y := by
      rcases List.mem_cons.1 ((h x).1 List.mem_cons_self) with e | hx
      · exact e
      · rcases List.mem_cons.1 ((h y).2 List.mem_cons_self) with e | hy
        · exact e.symm
        · exact absurd (l1 y hy) (klt_not (m1 x hx))
    subst e
    rw [same_rows l2 m2 fun z => ?_]
    constructor
    · intro hz
      rcases List.mem_cons.1 ((h z).1 (List.mem_cons_of_mem _ hz)) with e | g
      · subst e; exact absurd (l1 z hz) (klt_not (l1 z hz))
      · exact g
    · intro hz
      rcases List.mem_cons.1 ((h z).2 (List.mem_cons_of_mem _ hz)) with e | g
      · subst e; exact absurd (m1 z hz) (klt_not (m1 z hz))
      · exact g
/-- two tables by rising keys that know the same -/
theorem same_finds {l m : List Fr} (hl : Rising l) (hm : Rising m) (h : ∀ v a, findK l v a = findK m v a) : l = m := by
  refine same_rows hl hm fun x => ?_
  have e := h x.vlan x.addr
  constructor
  · intro hx
    have := (find_some hl).2 ⟨hx, rfl, rfl⟩
    rw [e] at this
    exact ((find_some hm).1 this).1
  · intro hx
    have := (find_some hm).2 ⟨hx, rfl, rfl⟩
    rw [← e] at this
    exact ((find_some hl).1 this).1
theorem length_ins {l : List Fr} (h : Rising l) (x : Fr) : (ins l x).length = if (findK l x.vlan x.addr).isSome then l.length else l.length + 1 := by
  have hs : ∀ (l : List Fr), Rising l → (ins l x).length = if (findK l x.vlan x.addr).isSome then l.length else l.length + 1 := by
    intro l
    induction l with
    | nil => intro _; rfl
    | cons y l ih =>
      intro h
      obtain ⟨h1, h2⟩ := List.pairwise_cons.1 h
      have ih := ih h2
      unfold ins at ih ⊢
      rw [taken h2] at ih
      rw [taken h]
      have hf : findK (y :: l) x.vlan x.addr = if y.vlan = x.vlan ∧ y.addr = x.addr then some y else findK l x.vlan x.addr := by
        unfold findK
        rw [List.find?_cons]
        by_cases e : y.vlan = x.vlan ∧ y.addr = x.addr
        · rw [if_pos e]; simp [e]
        · rw [if_neg e]; simp [e]
      rcases klt_or y x with g | g | g
      · have n1 : ¬ klt x y := klt_not g
        have n2 : ¬ (y.vlan = x.vlan ∧ y.addr = x.addr) := klt_ne g
        rw [hf, if_neg n2, List.filter_cons_of_pos (by simpa using g), List.filter_cons_of_neg (by simpa using n1)]
        simp only [List.length_append, List.length_cons] at ih ⊢
        split at ih <;> simp_all <;> omega
      · have n1 : ¬ klt x y := fun k => klt_ne k ⟨g.1.symm, g.2.symm⟩
        have n2 : ¬ klt y x := fun k => klt_ne k g
        have g2 : y.vlan = x.vlan ∧ y.addr = x.addr := g
        rw [hf, if_pos g2, List.filter_cons_of_neg (by simpa using n2), List.filter_cons_of_neg (by simpa using n1)]
        have hn : (findK l x.vlan x.addr).isSome = false := by
          rw [find_none.2 (fun z hz e => klt_ne (h1 z hz) ⟨g.1.trans e.1.symm, g.2.trans e.2.symm⟩)]
          rfl
        rw [hn] at ih
        simpa using ih
      · have n1 : ¬ klt y x := klt_not g
        have n2 : ¬ (y.vlan = x.vlan ∧ y.addr = x.addr) := fun e => klt_ne g ⟨e.1.symm, e.2.symm⟩
        rw [hf, if_neg n2, List.filter_cons_of_neg (by simpa using n1), List.filter_cons_of_pos (by simpa using g)]
        simp only [List.length_append, List.length_cons] at ih ⊢
        split at ih <;> simp_all <;> omega
  exact hs l h
end Go.Proofs.Ytljkodfdiebfiaa.Fd
