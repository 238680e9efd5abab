/-
  Maps that count, whose keys are numbers: what one holds, by its keys alone.
-/
import Derived.Test.YtoiggajjbjcabaaPlG
import Derived.Maps.OwnSet
import Derived.Maps.OwnOps
namespace Go.Proofs.Ytoiggajjbjcabaa.Pn
open Go.RowKit Go.Maps Go.Proofs.Ytoiggajjbjcabaa.Bt Go.Proofs.Ytoiggajjbjcabaa.Mm Go.Proofs.Ytoiggajjbjcabaa.Fl Go.Proofs.Ytoiggajjbjcabaa.Tg
set_option linter.unusedVariables false

abbrev intT : TypeId := 3
theorem zeroI (w : World) : (zeroValue 3).run Try.prog w = .ok (.int .i64 0) w := by kernel_rfl
/-- block b is a map whose keys, of kind q and type k, are just these, each with a number -/
def Ms (q : IntKind) (k : TypeId) (w : World) (b : Nat) (S : List Int) : Prop :=
  ∃ D : DataW Unit, w.ownsMap Try.prog k (plainElem Try.prog 3) b S.length D ∧ Maps.size D = S.length ∧ ∀ x, Maps.has D (.int q x) = decide (x ∈ S)
section
variable {q : IntKind} {k t : TypeId} {w w' : World} {b : Nat} {S : List Int}
theorem Ms.lt (h : Ms q k w b S) : b < w.heap.size := by obtain ⟨D, h, -⟩ := h; exact World.ownsMap.lt h
theorem Ms.below {B : Nat} (h : Ms q k w b S) (hb : Below B w w') (hg : b < B) : Ms q k w' b S := by
  obtain ⟨D, ⟨es, clock, h1, h2⟩, h3⟩ := h
  exact ⟨D, ⟨es, clock, (hb.block b hg).trans h1, h2⟩, h3⟩
theorem Ms.on (h : Ms q k w b S) (hb : Below w.heap.size w w') : Ms q k w' b S := h.below hb h.lt
theorem Ms.alloc (h : Ms q k w b S) (o : Obj) : Ms q k (w.alloc o) b S := by obtain ⟨D, h, h3⟩ := h; exact ⟨D, World.ownsMap.alloc h o, h3⟩
theorem Ms.grown {row : Option Nat} (h : Ms q k w b S) (hg : w.grownBy w' row) (hne : some b ≠ row) : Ms q k w' b S := by obtain ⟨D, h, h3⟩ := h; exact ⟨D, World.ownsMap.kept h hg hne, h3⟩
theorem Ms.new (q : IntKind) (k : TypeId) (w : World) : Ms q k (w.alloc (.map #[] 0)) w.heap.size [] := ⟨_, World.ownsMap_made w _ _ _, rfl, fun x => by simp [Maps.has]⟩
theorem Ms.len (h : Ms q k w b S) (ht : Try.prog.underlying t = some (.map k 3)) (ty : TypeId) : (Builtin.len_ #[t] ty #[.map (some b)]).run Try.prog w = .ok (.int .i64 (S.length : Int)) w := by
  obtain ⟨D, h, hs, -⟩ := h
  have := World.ownsMap.len h ht ty
  rwa [hs] at this
theorem Ms.look (h : Ms q k w b S) (hk : Try.prog.underlying k = some (.int q)) (ht : Try.prog.underlying t = some (.map k 3)) {x : Int} (hx : (Lit.int q x).wf = true) :
    ∃ c, (Instr.lookup t (.map (some b)) (.int q x) false).run Try.prog w = .ok (.int .i64 c) w ∧ (Lit.int .i64 c).wf = true ∧ (x ∉ S → c = 0) := by
  obtain ⟨D, h, hs, hh⟩ := h
  obtain ⟨c, h1, h2, h3⟩ := h.lookup_int (int_keyed hk) ht Try.underlying3 (zeroI w) (keyOf_int_mk hk hx)
  refine ⟨c, h1, h3, fun hn => ?_⟩
  rw [atKey_of_not_has (by rw [hh x]; exact decide_eq_false hn)] at h2
  cases h2
  rfl
theorem Ms.put (h : Ms q k w b S) (hk : Try.prog.underlying k = some (.int q)) (ht : Try.prog.underlying t = some (.map k 3)) {x c : Int} (hx : (Lit.int q x).wf = true) (hc : (Lit.int .i64 c).wf = true) (hn : x ∉ S) (hl : S.length < 1000) :
    ∃ w', (Instr.mapUpdate t (.map (some b)) (.int q x) (.int .i64 c)).run Try.prog w = .ok () w' ∧ Ms q k w' b (x :: S) ∧ w.grownBy w' (some b) := by
  obtain ⟨D, h, hs, hh⟩ := h
  have ti := h.tidy (int_keyed hk)
  obtain ⟨w', h1, h2, h3⟩ := h.update (int_keyed hk) ht (Nat.lt_trans hl (by unfold maxLen; decide)) (keyOf_int_mk hk hx) (plainElem_int Try.underlying3 hc)
  refine ⟨w', h1, ⟨_, h2, ?_, fun y => ?_⟩, h3⟩
  · rw [size_put ti, hh x, decide_eq_false hn]
    simp [hs]
  · by_cases e : y = x
    · subst e
      rw [has_put_same h.isMap (show WideAt.IsKeyLit (.int q y) from trivial)]
      simp
    · rw [has_put_other (by intro h; cases h; exact e rfl), hh y]
      simp [e]
end
/-- 'm[k]' at the operation -/
theorem wpList_lk {ops : Array Oper} {rest : List Oper} {o : Oper} {a : Act} {w : World} {Q : Exit → Act → World → Prop} (hw : Region.wanted o (yielded ops a.tmps) = true)
    (m x : Operand) (t : TypeId) (hop : o.op = Op.lookup t m x false) (q : IntKind) (k : TypeId) (hk : Try.prog.underlying k = some (.int q)) (ht : Try.prog.underlying t = some (.map k 3)) (b : Nat) (S : List Int) (y : Int)
    (hm : a.eval m = .map (some b)) (hx : a.eval x = .int q y) (hM : Ms q k w b S) (hy : (Lit.int q y).wf = true)
    (hK : ∀ c : Int, (Lit.int .i64 c).wf = true → (y ∉ S → c = 0) → wpList Try.prog ops Q rest (a.put o.dst (.int .i64 c)) w) : wpList Try.prog ops Q (o :: rest) a w := by
  refine BigFrame.wpList_want hw fun K' hK' => ?_
  obtain ⟨c, hrun, hc, h0⟩ := hM.look hk ht hy
  unfold Oper.wp
  simp [execOp, hop, hm, hx, hrun, Result.andThen]
  exact hK' _ _ (hK c hc h0)
/-- 'm[k] = v' at the operation -/
theorem wpList_up {ops : Array Oper} {rest : List Oper} {o : Oper} {a : Act} {w : World} {Q : Exit → Act → World → Prop} (hw : Region.wanted o (yielded ops a.tmps) = true)
    (m x v : Operand) (t : TypeId) (hop : o.op = Op.mapUpdate t m x v) (q : IntKind) (k : TypeId) (hk : Try.prog.underlying k = some (.int q)) (ht : Try.prog.underlying t = some (.map k 3)) (b : Nat) (S : List Int) (y c : Int)
    (hm : a.eval m = .map (some b)) (hx : a.eval x = .int q y) (hv : a.eval v = .int .i64 c) (hM : Ms q k w b S) (hy : (Lit.int q y).wf = true) (hc : (Lit.int .i64 c).wf = true) (hn : y ∉ S) (hl : S.length < 1000)
    (hK : ∀ w', Ms q k w' b (y :: S) → w.grownBy w' (some b) → wpList Try.prog ops Q rest (a.put o.dst undef) w') : wpList Try.prog ops Q (o :: rest) a w := by
  refine BigFrame.wpList_want hw fun K' hK' => ?_
  obtain ⟨w', hrun, h1, h2⟩ := hM.put hk ht hy hc hn hl
  unfold Oper.wp
  simp [execOp, hop, hm, hx, hv, hrun, Result.andThen]
  exact hK' _ _ (hK w' h1 h2)

/-- the keys behind k nodes -/
def S1 : Nat → List Int
  | 0 => []
  | k + 1 => (6597069766657 + (k : Int)) :: (2199023255553 + (k : Int)) :: S1 k
/-- the keys behind m ends -/
def E2 : Nat → List Int
  | 0 => []
  | m + 1 => ((m : Int) + 1) :: E2 m
theorem S1_len : ∀ k, (S1 k).length = 2 * k
  | 0 => rfl
  | k + 1 => by simp [S1, S1_len k]; omega
theorem E2_len : ∀ m, (E2 m).length = m
  | 0 => rfl
  | m + 1 => by simp [E2, E2_len m]
theorem S1_mem {x : Int} : ∀ {k : Nat}, x ∈ S1 k → (2199023255553 ≤ x ∧ x < 2199023255553 + k) ∨ (6597069766657 ≤ x ∧ x < 6597069766657 + k)
  | 0, h => by cases h
  | k + 1, h => by
    simp only [S1, List.mem_cons] at h
    rcases h with h | h | h
    · omega
    · omega
    · have := S1_mem h
      omega
theorem E2_mem {x : Int} : ∀ {m : Nat}, x ∈ E2 m → 1 ≤ x ∧ x ≤ m
  | 0, h => by cases h
  | m + 1, h => by
    simp only [E2, List.mem_cons] at h
    rcases h with h | h
    · omega
    · have := E2_mem h
      omega
theorem node_new {k : Nat} (hk : k ≤ 16) : (2199023255553 + (k : Int)) ∉ S1 k := fun h => by have := S1_mem h; omega
theorem host_new {k : Nat} (hk : k ≤ 16) : (6597069766657 + (k : Int)) ∉ (2199023255553 + (k : Int)) :: S1 k := fun h => by
  rcases List.mem_cons.1 h with h | h
  · omega
  · have := S1_mem h
    omega
theorem end_new (m : Nat) : ((m : Int) + 1) ∉ E2 m := fun h => by have := E2_mem h; omega
theorem end_none (m : Nat) : (0 : Int) ∉ E2 m := fun h => by have := E2_mem h; omega

/-- the far end's far end is the port itself -/
theorem far_far {p : Pl} {i port n e : Int} (hh : hasP p i) (hp : port = 0 ∨ port = 1) (h : farR p i port = (n, e)) : farR p n e = (i, port) ∧ n ≠ i ∧ hasP p n := by
  have hi := has_in hh
  unfold farR at h
  rw [if_pos hh] at h
  by_cases h1 : port = 1
  · rw [if_pos h1] at h
    cases h
    have hn : hasP p (if i = p.no - 1 then 0 else i + 1) := ⟨hh.1, by split <;> omega, by split <;> omega⟩
    refine ⟨?_, by split <;> omega, hn⟩
    unfold farR
    rw [if_pos hn, if_neg (by decide), if_pos rfl]
    subst h1
    congr 1
    split
    · rw [if_pos rfl]; omega
    · rw [if_neg (by omega)]; omega
  · have h0 : port = 0 := by omega
    rw [if_neg h1, if_pos h0] at h
    cases h
    have hn : hasP p (if i = 0 then p.no - 1 else i - 1) := ⟨hh.1, by split <;> omega, by split <;> omega⟩
    refine ⟨?_, by split <;> omega, hn⟩
    unfold farR
    rw [if_pos hn, if_pos rfl]
    subst h0
    congr 1
    split
    · rw [if_pos rfl]; omega
    · rw [if_neg (by omega)]; omega
theorem role_own {p : Pl} {i : Int} (hh : hasP p i) (h : i = p.ow) : roleR p i = (1, 1) := by
  unfold roleR
  rw [if_pos hh, if_pos h]
theorem role_other {p : Pl} {i a b : Int} (hh : hasP p i) (h : i ≠ p.ow) (hr : roleR p i = (a, b)) : ¬ a = 1 := by
  unfold roleR at hr
  rw [if_pos hh, if_neg h] at hr
  split at hr <;> (cases hr; decide)
theorem role_next {p : Pl} {n e : Int} (hh : hasP p p.ow) (h : farR p p.ow 1 = (n, e)) : roleR p n = (2, e) ∧ e = 0 := by
  obtain ⟨-, hne, hn⟩ := far_far hh (.inr rfl) h
  have he : e = 0 := by
    rw [far_own hh] at h
    cases h
    rfl
  subst he
  refine ⟨?_, rfl⟩
  unfold roleR
  rw [if_pos hn, if_neg hne, h, if_pos rfl]
theorem far_east {p : Pl} {i : Int} (hh : hasP p i) : farR p i 1 = ((if i = p.no - 1 then 0 else i + 1), 0) := by
  unfold farR
  rw [if_pos hh, if_pos rfl]
end Go.Proofs.Ytoiggajjbjcabaa.Pn
