/-
  Blocks of 4 cells: what a walk wants to know of them.
  Plain lemmas on tables: rows by rising keys; a row put in; a row found; two tables that know the same.
  Tables: what a key reads as, what an element reads as; a map that reads as rows by rising keys.
  Tables, the program's: a map in a block as rows; is a row old, why can't it be learned, New, with.
  Tables, the program's: New, with, Learn, Look.
-/
import Derived.Test.YteaghbdeleaanaaGen
import Derived.Test.YteaghbdeleaanaaFld
import Derived.Maps.OwnSet
import Derived.Maps.RangeWalk
import Derived.DeepKeys4
import Derived.Test.YteaghbdeleaanaaMacB
import Derived.Shelf.SlMaps.Clone
import Derived.Test.YteaghbdeleaanaaShelfP
namespace Go.Proofs.Yteaghbdeleaanaa.Rw4
open Go.RowKit Go.Proofs.Yteaghbdeleaanaa.Mm Go.Proofs.Yteaghbdeleaanaa.Tg

theorem keep {w w' : World} {g : Nat} {x0 x1 x2 x3 : Value} (hb : Below w.heap.size w w') (h : g < w.heap.size ∧ w.cell? ⟨g, 0, none⟩ = some x0 ∧ w.cell? ⟨g, 1, none⟩ = some x1 ∧ w.cell? ⟨g, 2, none⟩ = some x2 ∧ w.cell? ⟨g, 3, none⟩ = some x3) : g < w'.heap.size ∧ w'.cell? ⟨g, 0, none⟩ = some x0 ∧ w'.cell? ⟨g, 1, none⟩ = some x1 ∧ w'.cell? ⟨g, 2, none⟩ = some x2 ∧ w'.cell? ⟨g, 3, none⟩ = some x3 := by
  obtain ⟨hg, h0, h1, h2, h3⟩ := h
  exact ⟨Nat.lt_of_lt_of_le hg hb.size, cell_be h0 hb hg, cell_be h1 hb hg, cell_be h2 hb hg, cell_be h3 hb hg⟩
theorem fresh (w : World) (t : TypeId) (x0 x1 x2 x3 : Value) : w.heap.size < (w.alloc (.cells #[x0, x1, x2, x3] t)).heap.size ∧ (w.alloc (.cells #[x0, x1, x2, x3] t)).cell? ⟨w.heap.size, 0, none⟩ = some x0 ∧ (w.alloc (.cells #[x0, x1, x2, x3] t)).cell? ⟨w.heap.size, 1, none⟩ = some x1 ∧ (w.alloc (.cells #[x0, x1, x2, x3] t)).cell? ⟨w.heap.size, 2, none⟩ = some x2 ∧ (w.alloc (.cells #[x0, x1, x2, x3] t)).cell? ⟨w.heap.size, 3, none⟩ = some x3 := by
  have h := Blk.fresh w t #[x0, x1, x2, x3]
  exact ⟨h.lt, h.cell 0, h.cell 1, h.cell 2, h.cell 3⟩
/-- 4 cells written, one after the other -/
abbrev set (w : World) (g : Nat) (x0 x1 x2 x3 : Value) : World := ((((w.setCell ⟨g, 0, none⟩ x0).setCell ⟨g, 1, none⟩ x1).setCell ⟨g, 2, none⟩ x2).setCell ⟨g, 3, none⟩ x3)
theorem blk_set {w : World} {g : Nat} {t : TypeId} {y0 y1 y2 y3 : Value} (h : Blk w g t #[y0, y1, y2, y3]) (x0 x1 x2 x3 : Value) : Blk (set w g x0 x1 x2 x3) g t #[x0, x1, x2, x3] := by
  have h0 : Blk _ g t #[x0, y1, y2, y3] := h.put 0 x0
  have h1 : Blk _ g t #[x0, x1, y2, y3] := h0.put 1 x1
  have h2 : Blk _ g t #[x0, x1, x2, y3] := h1.put 2 x2
  exact h2.put 3 x3
theorem below_set {a w : World} {B g : Nat} (h : Below B a w) (hg : B ≤ g) (x0 x1 x2 x3 : Value) : Below B a (set w g x0 x1 x2 x3) := ((((h.setCell (p := ⟨g, 0, none⟩) hg x0).setCell (p := ⟨g, 1, none⟩) hg x1).setCell (p := ⟨g, 2, none⟩) hg x2).setCell (p := ⟨g, 3, none⟩) hg x3)
theorem far {w : World} {g k : Nat} {t : TypeId} {cs : Array Value} (h : Blk w k t cs) (hne : k ≠ g) (x0 x1 x2 x3 : Value) : Blk (set w g x0 x1 x2 x3) k t cs := ((((h.far (p := ⟨g, 0, none⟩) hne x0).far (p := ⟨g, 1, none⟩) hne x1).far (p := ⟨g, 2, none⟩) hne x2).far (p := ⟨g, 3, none⟩) hne x3)
structure Row (w : World) (g : Nat) (x0 x1 x2 x3 : Value) : Prop where
  c0 : w.cell? ⟨g, 0, none⟩ = some x0
  c1 : w.cell? ⟨g, 1, none⟩ = some x1
  c2 : w.cell? ⟨g, 2, none⟩ = some x2
  c3 : w.cell? ⟨g, 3, none⟩ = some x3
  z0 : w.frozen? ⟨g, 0, none⟩ = false
  z1 : w.frozen? ⟨g, 1, none⟩ = false
  z2 : w.frozen? ⟨g, 2, none⟩ = false
  z3 : w.frozen? ⟨g, 3, none⟩ = false
theorem row {w : World} {g : Nat} {t : TypeId} {x0 x1 x2 x3 : Value} (h : Blk w g t #[x0, x1, x2, x3]) : Row w g x0 x1 x2 x3 := ⟨h.cell 0, h.cell 1, h.cell 2, h.cell 3, h.frozen 0, h.frozen 1, h.frozen 2, h.frozen 3⟩
theorem arr {cs : Array Value} {x0 x1 x2 x3 : Value} (hs : cs.size = 4) (h0 : cs[0]? = some x0) (h1 : cs[1]? = some x1) (h2 : cs[2]? = some x2) (h3 : cs[3]? = some x3) : cs = #[x0, x1, x2, x3] := by
  obtain ⟨l⟩ := cs
  match l, hs with
  | [c0, c1, c2, c3], _ =>
    simp at h0 h1 h2 h3
    subst h0 h1 h2 h3
    rfl
end Go.Proofs.Yteaghbdeleaanaa.Rw4
namespace Go.Proofs.Yteaghbdeleaanaa.Fd

structure Fr where
  vlan : Nat
  addr : Nat
  port : Int
  seen : Int
deriving DecidableEq
/-- a row stands ahead of another one -/
def klt (x y : Fr) : Prop := x.vlan < y.vlan ∨ x.vlan = y.vlan ∧ x.addr < y.addr
instance (x y : Fr) : Decidable (klt x y) := by unfold klt; exact inferInstance
/-- two rows of one VLAN and address -/
def ksame (x y : Fr) : Prop := x.vlan = y.vlan ∧ x.addr = y.addr
instance (x y : Fr) : Decidable (ksame x y) := by unfold ksame; exact inferInstance
abbrev Rising (l : List Fr) : Prop := l.Pairwise klt
theorem klt_trans {x y z : Fr} (h : klt x y) (g : klt y z) : klt x z := by unfold klt at *; omega
theorem klt_not {x y : Fr} (h : klt x y) : ¬ klt y x := by unfold klt at *; omega
theorem klt_ne {x y : Fr} (h : klt x y) : ¬ ksame x y := by unfold klt ksame at *; omega
theorem klt_or (x y : Fr) : klt x y ∨ ksame x y ∨ klt y x := by unfold klt ksame; omega
/-- a row put in -/
def ins (l : List Fr) (x : Fr) : List Fr := l.takeWhile (fun y => decide (klt y x)) ++ x :: l.filter (fun y => decide (klt x y))
/-- the row of a VLAN and an address -/
def findK (l : List Fr) (v a : Nat) : Option Fr := l.find? (fun r => decide (r.vlan = v ∧ r.addr = a))

theorem taken {l : List Fr} (h : Rising l) (x : Fr) : l.takeWhile (fun y => decide (klt y x)) = l.filter (fun y => decide (klt y x)) := by
  induction l with
  | nil => rfl
  | cons y l ih =>
    obtain ⟨h1, h2⟩ := List.pairwise_cons.1 h
    by_cases hy : klt y x
    · rw [List.takeWhile_cons_of_pos (by simpa using hy), List.filter_cons_of_pos (by simpa using hy), ih h2]
    · rw [List.takeWhile_cons_of_neg (by simpa using hy), List.filter_cons_of_neg (by simpa using hy)]
      symm
      rw [List.filter_eq_nil_iff]
      intro z hz hz2
      have := h1 z hz
      simp only [decide_eq_true_eq] at hz2
      exact hy (klt_trans this hz2)
theorem mem_ins {l : List Fr} (h : Rising l) {x y : Fr} : y ∈ ins l x ↔ y = x ∨ y ∈ l ∧ ¬ ksame y x := by
  unfold ins
  rw [taken h]
  simp only [List.mem_append, List.mem_cons, List.mem_filter, decide_eq_true_eq]
  constructor
  · rintro (⟨h1, h2⟩ | rfl | ⟨h1, h2⟩)
    · exact .inr ⟨h1, klt_ne h2⟩
    · exact .inl rfl
    · exact .inr ⟨h1, fun e => klt_ne h2 ⟨e.1.symm, e.2.symm⟩⟩
  · rintro (rfl | ⟨h1, h2⟩)
    · exact .inr (.inl rfl)
    · rcases klt_or y x with g | g | g
      · exact .inl ⟨h1, g⟩
      · exact absurd g h2
      · exact .inr (.inr ⟨h1, g⟩)
theorem rising_ins {l : List Fr} (h : Rising l) (x : Fr) : Rising (ins l x) := by
  unfold ins
  rw [taken h]
  refine List.pairwise_append.2 ⟨h.filter _, List.pairwise_cons.2 ⟨fun y hy => ?_, h.filter _⟩, fun y hy z hz => ?_⟩
  · simpa using (List.mem_filter.1 hy).2
  · have h1 : klt y x := by simpa using (List.mem_filter.1 hy).2
    rcases List.mem_cons.1 hz with rfl | hz
    · exact h1
    · exact klt_trans h1 (by simpa using (List.mem_filter.1 hz).2)
theorem rising_filter {l : List Fr} (h : Rising l) (p : Fr → Bool) : Rising (l.filter p) := h.filter p
/-- of one VLAN and address there is one row -/
theorem one_row {l : List Fr} (h : Rising l) {x y : Fr} (hx : x ∈ l) (hy : y ∈ l) (he : ksame x y) : x = y := by
  induction l with
  | nil => cases hx
  | cons z l ih =>
    obtain ⟨h1, h2⟩ := List.pairwise_cons.1 h
    rcases List.mem_cons.1 hx with ex | ex
    · rcases List.mem_cons.1 hy with ey | ey
      · rw [ex, ey]
      · rw [ex] at he
        exact absurd he (klt_ne (h1 y ey))
    · rcases List.mem_cons.1 hy with ey | ey
      · rw [ey] at he
        exact absurd ⟨he.1.symm, he.2.symm⟩ (klt_ne (h1 x ex))
      · exact ih h2 ex ey
theorem find_some {l : List Fr} (h : Rising l) {v a : Nat} {x : Fr} : findK l v a = some x ↔ x ∈ l ∧ x.vlan = v ∧ x.addr = a := by
  unfold findK
  constructor
  · intro e
    have h1 := List.mem_of_find?_eq_some e
    have h2 := List.find?_some e
    simp only [decide_eq_true_eq] at h2
    exact ⟨h1, h2⟩
  · rintro ⟨h1, h2⟩
    cases e : l.find? (fun r => decide (r.vlan = v ∧ r.addr = a)) with
    | none =>
      have := List.find?_eq_none.1 e x h1
      simp only [decide_eq_true_eq] at this
      exact absurd h2 this
    | some y =>
      have g1 := List.mem_of_find?_eq_some e
      have g2 := List.find?_some e
      simp only [decide_eq_true_eq] at g2
      rw [one_row h g1 h1 ⟨g2.1.trans h2.1.symm, g2.2.trans h2.2.symm⟩]
theorem find_none {l : List Fr} {v a : Nat} : findK l v a = none ↔ ∀ x ∈ l, ¬ (x.vlan = v ∧ x.addr = a) := by
  unfold findK
  rw [List.find?_eq_none]
  simp
theorem opt_ext {α : Type} {a b : Option α} (h : ∀ x, a = some x ↔ b = some x) : a = b := by
  cases a with
  | none => cases b with
    | none => rfl
    | some y => exact absurd ((h y).2 rfl) (by simp)
  | some x => exact ((h x).1 rfl).symm
theorem find_ins {l : List Fr} (h : Rising l) (x : Fr) (v a : Nat) : findK (ins l x) v a = if x.vlan = v ∧ x.addr = a then some x else findK l v a := by
  refine opt_ext fun y => ?_
  rw [find_some (rising_ins h x), mem_ins h]
  split
  · rename_i e
    constructor
    · rintro ⟨rfl | ⟨_, h2⟩, h3⟩
      · rfl
      · exact absurd ⟨h3.1.trans e.1.symm, h3.2.trans e.2.symm⟩ h2
    · intro e2
      simp only [Option.some.injEq] at e2
      subst e2
      exact ⟨.inl rfl, e⟩
  · rename_i e
    rw [find_some h]
    constructor
    · rintro ⟨rfl | ⟨h1, _⟩, h3⟩
      · exact absurd h3 e
      · exact ⟨h1, h3⟩
    · rintro ⟨h1, h2⟩
      exact ⟨.inr ⟨h1, fun k => e ⟨k.1.symm.trans h2.1, k.2.symm.trans h2.2⟩⟩, h2⟩
theorem find_filter {l : List Fr} (h : Rising l) (p : Fr → Bool) (v a : Nat) : findK (l.filter p) v a = (findK l v a).filter p := by
  refine opt_ext fun y => ?_
  rw [find_some (rising_filter h p), List.mem_filter, Option.filter_eq_some_iff, find_some h]
  constructor
  · rintro ⟨⟨h1, h2⟩, h3⟩; exact ⟨⟨h1, h3⟩, h2⟩
  · rintro ⟨⟨h1, h3⟩, h2⟩; exact ⟨⟨h1, h2⟩, h3⟩
/-- two tables by rising keys that have the same rows -/
theorem same_rows : ∀ {l m : List Fr}, Rising l → Rising m → (∀ x, x ∈ l ↔ x ∈ m) → l = m
  | [], [], _, _, _ => rfl
  | [], y :: m, _, _, h => absurd ((h y).2 List.mem_cons_self) (by simp)
  | x :: l, [], _, _, h => absurd ((h x).1 List.mem_cons_self) (by simp)
  | x :: l, y :: m, hl, hm, h => by
    obtain ⟨l1, l2⟩ := List.pairwise_cons.1 hl
    obtain ⟨m1, m2⟩ := List.pairwise_cons.1 hm
    have e : x = y := by
      rcases List.mem_cons.1 ((h x).1 List.mem_cons_self) with e | hx
      · exact e
      · rcases List.mem_cons.1 ((h y).2 List.mem_cons_self) with e | hy
        · exact e.symm
        · exact absurd (l1 y hy) (klt_not (m1 x hx))
    subst e
    rw [same_rows l2 m2 fun z => ?_]
    constructor
    · intro hz
      rcases List.mem_cons.1 ((h z).1 (List.mem_cons_of_mem _ hz)) with e | g
      · subst e; exact absurd (l1 z hz) (klt_not (l1 z hz))
      · exact g
    · intro hz
      rcases List.mem_cons.1 ((h z).2 (List.mem_cons_of_mem _ hz)) with e | g
      · subst e; exact absurd (m1 z hz) (klt_not (m1 z hz))
      · exact g
/-- two tables by rising keys that know the same -/
theorem same_finds {l m : List Fr} (hl : Rising l) (hm : Rising m) (h : ∀ v a, findK l v a = findK m v a) : l = m := by
  refine same_rows hl hm fun x => ?_
  have e := h x.vlan x.addr
  constructor
  · intro hx
    have := (find_some hl).2 ⟨hx, rfl, rfl⟩
    rw [e] at this
    exact ((find_some hm).1 this).1
  · intro hx
    have := (find_some hm).2 ⟨hx, rfl, rfl⟩
    rw [← e] at this
    exact ((find_some hl).1 this).1
theorem length_ins {l : List Fr} (h : Rising l) (x : Fr) : (ins l x).length = if (findK l x.vlan x.addr).isSome then l.length else l.length + 1 := by
  have hs : ∀ (l : List Fr), Rising l → (ins l x).length = if (findK l x.vlan x.addr).isSome then l.length else l.length + 1 := by
    intro l
    induction l with
    | nil => intro _; rfl
    | cons y l ih =>
      intro h
      obtain ⟨h1, h2⟩ := List.pairwise_cons.1 h
      have ih := ih h2
      unfold ins at ih ⊢
      rw [taken h2] at ih
      rw [taken h]
      have hf : findK (y :: l) x.vlan x.addr = if y.vlan = x.vlan ∧ y.addr = x.addr then some y else findK l x.vlan x.addr := by
        unfold findK
        rw [List.find?_cons]
        by_cases e : y.vlan = x.vlan ∧ y.addr = x.addr
        · rw [if_pos e]; simp [e]
        · rw [if_neg e]; simp [e]
      rcases klt_or y x with g | g | g
      · have n1 : ¬ klt x y := klt_not g
        have n2 : ¬ (y.vlan = x.vlan ∧ y.addr = x.addr) := klt_ne g
        rw [hf, if_neg n2, List.filter_cons_of_pos (by simpa using g), List.filter_cons_of_neg (by simpa using n1)]
        simp only [List.length_append, List.length_cons] at ih ⊢
        split at ih <;> simp_all <;> omega
      · have n1 : ¬ klt x y := fun k => klt_ne k ⟨g.1.symm, g.2.symm⟩
        have n2 : ¬ klt y x := fun k => klt_ne k g
        have g2 : y.vlan = x.vlan ∧ y.addr = x.addr := g
        rw [hf, if_pos g2, List.filter_cons_of_neg (by simpa using n2), List.filter_cons_of_neg (by simpa using n1)]
        have hn : (findK l x.vlan x.addr).isSome = false := by
          rw [find_none.2 (fun z hz e => klt_ne (h1 z hz) ⟨g.1.trans e.1.symm, g.2.trans e.2.symm⟩)]
          rfl
        rw [hn] at ih
        simpa using ih
      · have n1 : ¬ klt y x := klt_not g
        have n2 : ¬ (y.vlan = x.vlan ∧ y.addr = x.addr) := fun e => klt_ne g ⟨e.1.symm, e.2.symm⟩
        rw [hf, if_neg n2, List.filter_cons_of_neg (by simpa using n1), List.filter_cons_of_pos (by simpa using g)]
        simp only [List.length_append, List.length_cons] at ih ⊢
        split at ih <;> simp_all <;> omega
  exact hs l h
end Go.Proofs.Yteaghbdeleaanaa.Fd
namespace Go.Proofs.Yteaghbdeleaanaa.Fd
open Go.RowKit Go.Maps Go.Proofs.Yteaghbdeleaanaa.Mm

/-! ### a key's bytes stand in the order of VLAN and address -/
theorem bb_app : ∀ (x y r s : List UInt8), x.length = y.length → bytesBefore (x ++ r) (y ++ s) = (bytesBefore x y || (x == y && bytesBefore r s))
  | [], [], r, s, _ => by simp [bytesBefore]
  | a :: x, b :: y, r, s, h => by
    have ih := bb_app x y r s (by simpa using h)
    simp only [List.cons_append, bytesBefore, ih]
    by_cases hab : a = b
    · subst hab
      simp only [BEq.rfl, Bool.true_and, UInt8.lt_irrefl, decide_false, Bool.false_or, List.cons_beq_cons]
    · have h1 : (a == b) = false := by simpa using hab
      have h2 : ((a :: x) == (b :: y)) = false := by simp [hab]
      simp only [h1, h2, Bool.false_and, Bool.or_false]
  | [], b :: y, _, _, h => by simp at h
  | a :: x, [], _, _, h => by simp at h
theorem le_len : ∀ (w n : Nat), (bytesLE w n).length = w
  | 0, _ => rfl
  | w + 1, n => by simp [bytesLE, le_len w]
theorem be_len (w n : Nat) : (bytesBE w n).length = w := by simp [bytesBE, le_len]
theorem be_succ (w n : Nat) : bytesBE (w + 1) n = bytesBE w (n / 256) ++ [UInt8.ofNat (n % 256)] := by simp [bytesBE, bytesLE]
theorem be_inj : ∀ (w : Nat) {a b : Nat}, a < 256 ^ w → b < 256 ^ w → bytesBE w a = bytesBE w b → a = b
  | 0, a, b, ha, hb, _ => by simp at ha hb; omega
  | w + 1, a, b, ha, hb, h => by
    rw [be_succ, be_succ] at h
    obtain ⟨h1, h2⟩ := List.append_inj h (by rw [be_len, be_len])
    have e1 := be_inj w (a := a / 256) (b := b / 256) (by rw [Nat.div_lt_iff_lt_mul (by decide)]; rw [Nat.pow_succ] at ha; exact ha) (by rw [Nat.div_lt_iff_lt_mul (by decide)]; rw [Nat.pow_succ] at hb; exact hb) h1
    have e2 : a % 256 = b % 256 := by
      simp only [List.cons.injEq, and_true] at h2
      have := congrArg UInt8.toNat h2
      simpa [UInt8.toNat_ofNat, Nat.mod_mod] using this
    omega
theorem be_before : ∀ (w : Nat) {a b : Nat}, a < 256 ^ w → b < 256 ^ w → bytesBefore (bytesBE w a) (bytesBE w b) = decide (a < b)
  | 0, a, b, ha, hb => by
    have : a = 0 := by simpa using ha
    have : b = 0 := by simpa using hb
    subst a b
    rfl
  | w + 1, a, b, ha, hb => by
    have ha' : a / 256 < 256 ^ w := by rw [Nat.div_lt_iff_lt_mul (by decide)]; rw [Nat.pow_succ] at ha; exact ha
    have hb' : b / 256 < 256 ^ w := by rw [Nat.div_lt_iff_lt_mul (by decide)]; rw [Nat.pow_succ] at hb; exact hb
    rw [be_succ, be_succ, bb_app _ _ _ _ (by rw [be_len, be_len]), be_before w ha' hb']
    have hl : bytesBefore [UInt8.ofNat (a % 256)] [UInt8.ofNat (b % 256)] = decide (a % 256 < b % 256) := by
      simp only [bytesBefore, Bool.and_false, Bool.or_false]
      have : (UInt8.ofNat (a % 256) < UInt8.ofNat (b % 256)) ↔ a % 256 < b % 256 := by
        rw [UInt8.lt_iff_toNat_lt]
        simp
      exact decide_eq_decide.2 this
    rw [hl]
    by_cases e : bytesBE w (a / 256) = bytesBE w (b / 256)
    · have e1 := be_inj w ha' hb' e
      rw [e]
      simp only [BEq.rfl, Bool.true_and]
      rw [← Bool.decide_or, decide_eq_decide]
      omega
    · have e1 : (bytesBE w (a / 256) == bytesBE w (b / 256)) = false := by simpa using e
      have e2 : a / 256 ≠ b / 256 := fun k => e (by rw [k])
      simp only [e1, Bool.false_and, Bool.or_false]
      rw [decide_eq_decide]
      omega
/-- what a key reads as -/
def kl (v a : Nat) : Lit := .string (bytesBE 2 v ++ bytesBE 8 a)
abbrev InK (v a : Nat) : Prop := v < 65536 ∧ a < 18446744073709551616
theorem kl_key (v a : Nat) : WideAt.IsKeyLit (kl v a) := trivial
theorem kl_before {v a v' a' : Nat} (h : InK v a) (h' : InK v' a') : (kl v a).before (kl v' a') = decide (v < v' ∨ v = v' ∧ a < a') := by
  show bytesBefore _ _ = _
  rw [bb_app _ _ _ _ (by rw [be_len, be_len]), be_before 2 h.1 h'.1, be_before 8 h.2 h'.2]
  by_cases e : v = v'
  · subst e; simp
  · have : (bytesBE 2 v == bytesBE 2 v') = false := by
      simp only [beq_eq_false_iff_ne, ne_eq]
      exact fun k => e (be_inj 2 h.1 h'.1 k)
    simp [this, e]
theorem kl_inj {v a v' a' : Nat} (h : InK v a) (h' : InK v' a') (e : kl v a = kl v' a') : v = v' ∧ a = a' := by
  unfold kl at e
  injection e with e
  obtain ⟨h1, h2⟩ := List.append_inj e (by rw [be_len, be_len])
  exact ⟨be_inj 2 h.1 h'.1 h1, be_inj 8 h.2 h'.2 h2⟩
theorem kl_same {v a v' a' : Nat} (h : InK v a) (h' : InK v' a') : (kl v a).sameKey (kl v' a') = decide (v = v' ∧ a = a') := by
  by_cases e : v = v' ∧ a = a'
  · obtain ⟨rfl, rfl⟩ := e
    simp [WideAt.sameKey_self (kl_key v a)]
  · rw [sameKey_ne (fun k => e (kl_inj h h' k))]
    simp [e]

/-! ### rows as a map's reading -/
/-- what an element reads as -/
def sg (p s : Int) : DataW Unit := .agg [.lit (.int .i64 p), .lit (.int .i64 s)]
def ent (x : Fr) : Lit × DataW Unit := (kl x.vlan x.addr, sg x.port x.seen)
def toD (l : List Fr) : DataW Unit := .map (l.map ent)
abbrev okK (x : Fr) : Prop := InK x.vlan x.addr
theorem toD_size (l : List Fr) : Maps.size (toD l) = l.length := by simp [toD, Maps.size]
theorem ent_same {x : Fr} (hx : okK x) {v a : Nat} (h : InK v a) : (ent x).1.sameKey (kl v a) = decide (x.vlan = v ∧ x.addr = a) := kl_same hx h
theorem toD_has {v a : Nat} (h : InK v a) : ∀ {l : List Fr}, (∀ x ∈ l, okK x) → Maps.has (toD l) (kl v a) = (findK l v a).isSome
  | [], _ => rfl
  | x :: l, hl => by
    have ih := toD_has h (l := l) (fun y hy => hl y (List.mem_cons_of_mem _ hy))
    simp only [toD, Maps.has, List.map_cons, List.any_cons] at ih ⊢
    rw [ih, ent_same (hl x List.mem_cons_self) h]
    unfold findK
    rw [List.find?_cons]
    by_cases e : x.vlan = v ∧ x.addr = a
    · simp [e]
    · simp [e]
theorem toD_at {v a : Nat} (h : InK v a) (z : DataW Unit) : ∀ {l : List Fr}, (∀ x ∈ l, okK x) → (toD l).atKey (kl v a) z = match findK l v a with | some x => sg x.port x.seen | none => z
  | [], _ => rfl
  | x :: l, hl => by
    have ih := toD_at h z (l := l) (fun y hy => hl y (List.mem_cons_of_mem _ hy))
    unfold findK
    simp only [toD, DataW.atKey, List.map_cons, List.find?_cons] at ih ⊢
    rw [ent_same (hl x List.mem_cons_self) h]
    by_cases e : x.vlan = v ∧ x.addr = a
    · simp [e, ent]
    · simp only [e, decide_false]
      exact ih
theorem filter_map_ent (l : List Fr) (f : Lit × DataW Unit → Bool) : (l.map ent).filter f = (l.filter (fun x => f (ent x))).map ent := by
  rw [List.filter_map]; rfl
theorem toD_del {v a : Nat} (h : InK v a) {l : List Fr} (hl : ∀ x ∈ l, okK x) : (toD l).del (kl v a) = toD (l.filter (fun x => !decide (x.vlan = v ∧ x.addr = a))) := by
  show DataW.map _ = DataW.map _
  rw [filter_map_ent]
  congr 2
  exact List.filter_congr fun x hx => by rw [ent_same (hl x hx) h]
theorem insert_ent {x : Fr} (hx : okK x) : ∀ {l : List Fr}, Rising l → (∀ y ∈ l, okK y) → (∀ y ∈ l, ¬ ksame y x) → DataW.insert (ent x) (l.map ent) = (l.filter (fun y => decide (klt y x)) ++ x :: l.filter (fun y => decide (klt x y))).map ent
  | [], _, _, _ => rfl
  | y :: l, hr, hk, hn => by
    obtain ⟨h1, h2⟩ := List.pairwise_cons.1 hr
    have ih := insert_ent hx h2 (fun z hz => hk z (List.mem_cons_of_mem _ hz)) (fun z hz => hn z (List.mem_cons_of_mem _ hz))
    have hb : (ent x).1.before (ent y).1 = decide (klt x y) := kl_before hx (hk y List.mem_cons_self)
    rw [List.map_cons]
    unfold DataW.insert
    rw [hb]
    rcases klt_or x y with g | g | g
    · have hg : ¬ klt y x := klt_not g
      have e1 : l.filter (fun z => decide (klt z x)) = [] := by
        rw [List.filter_eq_nil_iff]
        intro z hz hz2
        simp only [decide_eq_true_eq] at hz2
        exact hg (klt_trans (h1 z hz) hz2)
      have e2 : l.filter (fun z => decide (klt x z)) = l := by
        rw [List.filter_eq_self]
        intro z hz
        simpa using klt_trans g (h1 z hz)
      rw [if_pos (by simpa using g), List.filter_cons_of_neg (by simpa using hg), List.filter_cons_of_pos (by simpa using g), e1, e2]
      rfl
    · exact absurd ⟨g.1.symm, g.2.symm⟩ (hn y List.mem_cons_self)
    · have hg : ¬ klt x y := klt_not g
      rw [if_neg (by simpa using hg), List.filter_cons_of_pos (by simpa using g), List.filter_cons_of_neg (by simpa using hg), ih]
      rfl
theorem toD_put {x : Fr} (hx : okK x) {l : List Fr} (hr : Rising l) (hl : ∀ y ∈ l, okK y) : (toD l).put (kl x.vlan x.addr) (sg x.port x.seen) = toD (ins l x) := by
  show DataW.map (DataW.insert (ent x) ((l.map ent).filter _)) = DataW.map _
  rw [filter_map_ent, List.filter_congr (q := fun y => !decide (ksame y x)) (fun y hy => by rw [ent_same (hl y hy) hx]; rfl), insert_ent hx (hr.filter _) (fun y hy => hl y (List.mem_filter.1 hy).1) (fun y hy => by simpa using (List.mem_filter.1 hy).2)]
  unfold ins
  rw [taken hr, List.filter_filter, List.filter_filter]
  congr 2
  have e1 : l.filter (fun y => decide (klt y x) && !decide (ksame y x)) = l.filter (fun y => decide (klt y x)) := List.filter_congr fun y _ => by
    by_cases g : klt y x
    · simp [g, klt_ne g]
    · simp [g]
  have e2 : l.filter (fun y => decide (klt x y) && !decide (ksame y x)) = l.filter (fun y => decide (klt x y)) := List.filter_congr fun y _ => by
    by_cases g : klt x y
    · have : ¬ ksame y x := fun k => klt_ne g ⟨k.1.symm, k.2.symm⟩
      simp [g, this]
    · simp [g]
  rw [e1, e2]

/-! ### the program's keys and elements -/
abbrev keyV (v a : Nat) : Value := .agg #[.int .u16 (v : Int), .int .u64 (a : Int)]
abbrev sgV (p s : Int) : Value := .agg #[.int .i64 p, .int .i64 s]
/-- how an element reads -/
def Rs : Value → Option (DataW Unit × List MemPlace)
  | .agg ⟨[.int .i64 p, .int .i64 s]⟩ => some (sg p s, [])
  | _ => none
theorem rs_mk (p s : Int) : Rs (sgV p s) = some (sg p s, []) := rfl
theorem rs_inv {v : Value} {y : DataW Unit × List MemPlace} (h : Rs v = some y) : ∃ q : Int × Int, v = sgV q.1 q.2 ∧ y = (sg q.1 q.2, []) := by
  unfold Rs at h
  split at h
  · rename_i p s
    injection h with h
    exact ⟨(p, s), rfl, h.symm⟩
  · cases h
theorem sg_inj {p s p' s' : Int} (h : sg p s = sg p' s') : p = p' ∧ s = s' := by
  unfold sg at h
  simpa using h
theorem laidOut : laidOutB Try.prog = true := by kernel_rfl
theorem wideK : (match Try.prog.underlying 53 with | some (.array _ _) | some (.struct _) => true | _ => false) = true := by rw [Try.underlying53]
theorem zeroS (w : World) : (zeroValue 50).run Try.prog w = .ok (sgV 0 0) w := by kernel_rfl
theorem rowK : (53 : TypeId) < Try.prog.types.size := of_decide_eq_true (by kernel_rfl)
theorem deepK : Try.prog.keyTypeAt 2 53 = true := by kernel_rfl
theorem typeK : Try.prog.keyType 53 = true := by kernel_rfl
theorem cellsK : Try.prog.cellsOf 53 = 2 := by kernel_rfl
theorem three : 2 + 1 ≤ 10000 := by omega
set_option maxRecDepth 100000 in
theorem law : Keyed Try.prog 53 := Keyed.of_law (deep_law_laid laidOut (m := 2) three rowK deepK wideK)
theorem formedK {c0 c1 : Value} : (Value.agg #[c0, c1]).formed Try.prog 53 = true := by simp [Value.formed, Try.underlying53, cellsK]
theorem sizeT : ∃ m, Try.prog.types.size = m + 1 := ⟨Try.prog.types.size - 1, by kernel_rfl⟩
theorem cells16 : Try.prog.cellsOf 23 = 1 := by kernel_rfl
theorem cellsA : Try.prog.cellsOf 25 = 1 := by kernel_rfl
theorem litsK {v a : Nat} (h : InK v a) (m : Nat) : Try.prog.keyLits (m + 2) 53 [.int .u16 (v : Int), .int .u64 (a : Int)] = some [.int .u16 (v : Int), .int .u64 (a : Int)] := by
  have w1 : (Lit.int .u16 (v : Int)).wf = true := by simp [Lit.wf, IntKind.min, IntKind.max, IntKind.bits, IntKind.signed]; have := h.1; omega
  have w2 : (Lit.int .u64 (a : Int)).wf = true := by simp [Lit.wf, IntKind.min, IntKind.max, IntKind.bits, IntKind.signed]; have := h.2; omega
  unfold Program.keyLits
  simp only [Try.underlying53, cellsK]
  unfold Program.keyLits
  simp [Try.underlying23, Try.underlying25, cells16, cellsA, w1, w2]
theorem keyK {v a : Nat} (h : InK v a) : keyOf Try.prog 53 (keyV v a) = some (kl v a) := by
  obtain ⟨m, hm⟩ := sizeT
  have h1 := h.1
  have h2 := h.2
  unfold keyOf
  simp only [Try.underlying53, typeK, formedK, Bool.and_self, if_true, hm]
  rw [show (keyV v a).cells.toList = [.int .u16 (v : Int), .int .u64 (a : Int)] from rfl, litsK h m]
  simp only [Option.map_some, keyBytes, List.flatMap_cons, List.flatMap_nil, Lit.keyBytes, List.append_nil, kl]
  have e1 : ((v : Int) % 2 ^ IntKind.u16.bits).toNat = v := by simp only [IntKind.bits]; omega
  have e2 : ((a : Int) % 2 ^ IntKind.u64.bits).toNat = a := by simp only [IntKind.bits]; omega
  rw [e1, e2]
  rfl
theorem lit_int {P : Program} {e : TypeId} {q : IntKind} {c : Value} {l : List Lit} {m : Nat} (he : P.underlying e = some (.int q)) (h : P.keyLits (m + 1) e [c] = some l) : ∃ n, c = .int q n ∧ (Lit.int q n).wf = true ∧ l = [.int q n] := by
  unfold Program.keyLits at h
  rw [he] at h
  cases c <;> simp at h
  obtain ⟨⟨rfl, h1⟩, rfl⟩ := h
  exact ⟨_, rfl, h1, rfl⟩
theorem wf_nat {q : IntKind} (hq : q.min = 0) {n : Int} (h : (Lit.int q n).wf = true) : ∃ k : Nat, n = (k : Int) ∧ (k : Int) ≤ q.max := by
  simp only [Lit.wf, hq, Bool.and_eq_true, decide_eq_true_eq] at h
  exact ⟨n.toNat, by omega, by omega⟩
set_option maxRecDepth 100000 in
theorem keyK_inv {v : Value} {l : Lit} (h : keyOf Try.prog 53 v = some l) : ∃ q : Nat × Nat, v = keyV q.1 q.2 ∧ InK q.1 q.2 ∧ l = kl q.1 q.2 := by
  have h0 := h
  obtain ⟨⟨cs⟩, L, rfl, hl, rfl⟩ := keyOf_top wideK h
  obtain ⟨m, hm⟩ := sizeT
  rw [hm] at hl
  clear h
  unfold Program.keyLits at hl
  simp only [Try.underlying53, cellsK] at hl
  match cs, hl with
  | [], hl => simp at hl
  | [c0], hl => simp at hl
  | c0 :: c1 :: c2 :: r, hl => simp at hl
  | [c0, c1], hl =>
    rw [if_pos (by simp)] at hl
    simp only [List.mapM_cons, List.mapM_nil, cells16, cellsA, List.drop_zero, List.take_succ_cons, List.take_zero, List.drop_succ_cons, Option.bind_eq_bind, Option.pure_def, Option.map_eq_some_iff, Option.bind_eq_some_iff] at hl
    obtain ⟨ls, ⟨l1, e1, l2, ⟨l3, e3, l4, e4, e5⟩, e2⟩, rfl⟩ := hl
    obtain ⟨n1, rfl, g1, rfl⟩ := lit_int Try.underlying23 e1
    obtain ⟨n2, rfl, g2, rfl⟩ := lit_int Try.underlying25 e3
    obtain ⟨k1, rfl, b1⟩ := wf_nat rfl g1
    obtain ⟨k2, rfl, b2⟩ := wf_nat rfl g2
    have hk : InK k1 k2 := by simp only [IntKind.max, IntKind.bits, IntKind.signed] at b1 b2; constructor <;> omega
    refine ⟨(k1, k2), rfl, hk, ?_⟩
    have := keyK hk
    rw [h0] at this
    simpa using this
end Go.Proofs.Yteaghbdeleaanaa.Fd
namespace Go.Proofs.Yteaghbdeleaanaa.Fd
open Go.RowKit Go.Maps Go.Proofs.Yteaghbdeleaanaa.Mm Go.Proofs.Yteaghbdeleaanaa.Tg

/-- block b is a map that has just these rows -/
def Mp (w : World) (b : Nat) (l : List Fr) : Prop := w.ownsMap Try.prog 53 Rs b l.length (toD l)
section
variable {w w' : World} {b n : Nat} {l : List Fr}
theorem Mp.of (h : w.ownsMap Try.prog 53 Rs b n (toD l)) : Mp w b l := by
  obtain ⟨es, clock, hb, F, _, hD⟩ := h
  refine ⟨es, clock, hb, F, ?_, hD⟩
  have e := congrArg Maps.size hD
  rw [toD_size] at e
  rw [e]
  show es.size ≤ List.length _
  rw [length_sorted]
  simp
theorem Mp.lt (h : Mp w b l) : b < w.heap.size := World.ownsMap.lt h
theorem Mp.below {B : Nat} (h : Mp w b l) (hb : Below B w w') (hg : b < B) : Mp w' b l := by
  obtain ⟨es, clock, h1, h2⟩ := h
  exact ⟨es, clock, (hb.block b hg).trans h1, h2⟩
theorem Mp.on (h : Mp w b l) (hb : Below w.heap.size w w') : Mp w' b l := h.below hb h.lt
theorem Mp.alloc (h : Mp w b l) (o : Obj) : Mp (w.alloc o) b l := World.ownsMap.alloc h o
theorem Mp.new (w : World) : Mp (w.alloc (.map #[] 0)) w.heap.size [] := World.ownsMap_made w _ _ _
theorem Mp.hit (h : Mp w b l) (hk : ∀ x ∈ l, okK x) {v a : Nat} (hin : InK v a) {x : Fr} (hf : findK l v a = some x) : (Instr.lookup 30 (.map (some b)) (keyV v a) true).run Try.prog w = .ok (.tuple #[sgV x.port x.seen, .bool true]) w := by
  obtain ⟨v', ps, hrun, hv⟩ := World.ownsMap.look_ok h law Try.underlying30 (zeroS w) (rs_mk 0 0) (keyK hin)
  obtain ⟨q, rfl, hq⟩ := rs_inv hv
  rw [toD_at hin _ hk, hf] at hq
  simp only [Prod.mk.injEq] at hq
  obtain ⟨e1, e2⟩ := sg_inj hq.1
  rw [hrun, toD_has hin hk, hf, ← e1, ← e2]
  rfl
theorem Mp.miss (h : Mp w b l) (hk : ∀ x ∈ l, okK x) {v a : Nat} (hin : InK v a) (hf : findK l v a = none) : (Instr.lookup 30 (.map (some b)) (keyV v a) true).run Try.prog w = .ok (.tuple #[sgV 0 0, .bool false]) w := by
  obtain ⟨v', ps, hrun, hv⟩ := World.ownsMap.look_ok h law Try.underlying30 (zeroS w) (rs_mk 0 0) (keyK hin)
  obtain ⟨q, rfl, hq⟩ := rs_inv hv
  rw [toD_at hin _ hk, hf] at hq
  simp only [Prod.mk.injEq] at hq
  obtain ⟨e1, e2⟩ := sg_inj hq.1
  rw [hrun, toD_has hin hk, hf, ← e1, ← e2]
  rfl
theorem Mp.len (h : Mp w b l) (ty : TypeId) : (Builtin.len_ #[30] ty #[.map (some b)]).run Try.prog w = .ok (.int .i64 (l.length : Int)) w := by
  have := World.ownsMap.len h Try.underlying30 ty
  rwa [toD_size] at this
end
/-- a look-up whose answer is known -/
theorem wpList_look {P : Program} (w : World) {ops : Array Oper} {rest : List Oper} {o : Oper} {a : Act} {Q : Exit → Act → World → Prop}
    (hg : o.guard = none) (m x : Operand) (t : TypeId) (hop : o.op = Op.lookup t m x true) (b : Nat) (key r : Value)
    (hm : a.eval m = .map (some b)) (hx : a.eval x = key) (hrun : (Instr.lookup t (.map (some b)) key true).run P w = .ok r w)
    (hK : wpList P ops Q rest (a.put o.dst r) w) : wpList P ops Q (o :: rest) a w := by
  refine wpList_plain hg fun K' hK' => ?_
  unfold Oper.wp
  simp [execOp, hop, hm, hx, hrun, Result.andThen]
  exact hK' _ _ hK

abbrev tbC (room age : Int) (b : Option Nat) : Array Value := #[.int .i64 room, .int .i64 age, .map b]
abbrev tbV (room age : Int) (b : Option Nat) : Value := .agg (tbC room age b)
theorem below_two (w : World) (a b : Obj) : Below w.heap.size w ((w.alloc a).alloc b) := ((Below.refl w.heap.size w).alloc (Nat.le_refl _) a).alloc (by simp) b
theorem below_three (w : World) (a b c : Obj) : Below w.heap.size w (((w.alloc a).alloc b).alloc c) := (below_two w a b).alloc (by simp; omega) c

set_option maxRecDepth 100000 in
set_option maxHeartbeats 1000000 in
theorem old_any (room age p s now y : Int) (b : Option Nat) (w : World) (hw : IntKind.i64.wrap (s + age) = y) :
    Calls Try.prog 16 #[tbV room age b, sgV p s, .int .i64 now] w fun e w' => e = .returned (.bool (decide (y ≤ now))) ∧ Below w.heap.size w w' := by
  go_enter Try.func16, Try.ntmps16
  go_wp2
  go_ret
  exact ⟨rfl, below_two w _ _⟩
/-- what a look-up finds -/
def found : Option Fr → Int × Int × Bool
  | some x => (x.port, x.seen, true)
  | none => (0, 0, false)
theorem Mp.look {w : World} {b : Nat} {l : List Fr} (h : Mp w b l) (hk : ∀ x ∈ l, okK x) {v a : Nat} (hin : InK v a) {p s : Int} {k : Bool} (hf : found (findK l v a) = (p, s, k)) : (Instr.lookup 30 (.map (some b)) (keyV v a) true).run Try.prog w = .ok (.tuple #[sgV p s, .bool k]) w := by
  cases ho : findK l v a with
  | none => rw [ho] at hf; simp only [found, Prod.mk.injEq] at hf; obtain ⟨rfl, rfl, rfl⟩ := hf; exact h.miss hk hin ho
  | some x => rw [ho] at hf; simp only [found, Prod.mk.injEq] at hf; obtain ⟨rfl, rfl, rfl⟩ := hf; exact h.hit hk hin ho

set_option maxRecDepth 100000 in
set_option maxHeartbeats 2000000 in
theorem wrong_r1 (room age p : Int) (v a : Nat) {b : Nat} {l : List Fr} {w : World} {q s : Int} {k : Bool} (h : Mp w b l) (hk : ∀ x ∈ l, okK x) (hin : InK v a) (hf : found (findK l v a) = (q, s, k))
    (c1 : decide ((v : Int) < 1) = true) :
    Calls Try.prog 23 #[tbV room age (some b), keyV v a, .int .i64 p] w fun e w' => e = .returned (.int .i64 4) ∧ Below w.heap.size w w' := by
  have h2 := (h.alloc (.cells (tbC room age (some b)) 32)).alloc (.cells #[.int .u16 (v : Int), .int .u64 (a : Int)] 53)
  have hl := Lib.hid (h2.look hk hin hf)
  have HA := Lib.hid hin.2
  clear h h2 hk hf hin
  go_enter Try.func23, Try.ntmps23
  go_wp2_with (at_lookup; refine wpList_look _ rfl _ _ _ rfl b _ _ rfl rfl hl.out ?_)
  go_ret
  exact ⟨rfl, below_three w _ _ _⟩
set_option maxRecDepth 100000 in
set_option maxHeartbeats 2000000 in
theorem wrong_r2 (room age p : Int) (v a : Nat) {b : Nat} {l : List Fr} {w : World} {q s : Int} {k : Bool} (h : Mp w b l) (hk : ∀ x ∈ l, okK x) (hin : InK v a) (hf : found (findK l v a) = (q, s, k))
    (c1 : decide ((v : Int) < 1) = false) (c2 : decide (4094 < (v : Int)) = true) :
    Calls Try.prog 23 #[tbV room age (some b), keyV v a, .int .i64 p] w fun e w' => e = .returned (.int .i64 4) ∧ Below w.heap.size w w' := by
  have h2 := (h.alloc (.cells (tbC room age (some b)) 32)).alloc (.cells #[.int .u16 (v : Int), .int .u64 (a : Int)] 53)
  have hl := Lib.hid (h2.look hk hin hf)
  have HA := Lib.hid hin.2
  clear h h2 hk hf hin
  go_enter Try.func23, Try.ntmps23
  go_wp2_with (at_lookup; refine wpList_look _ rfl _ _ _ rfl b _ _ rfl rfl hl.out ?_)
  go_ret
  exact ⟨rfl, below_three w _ _ _⟩
set_option maxRecDepth 100000 in
set_option maxHeartbeats 2000000 in
theorem wrong_f1 (room age p : Int) (v a : Nat) {b : Nat} {l : List Fr} {w : World} {q s : Int} {k : Bool} (h : Mp w b l) (hk : ∀ x ∈ l, okK x) (hin : InK v a) (hf : found (findK l v a) = (q, s, k))
    (c1 : decide ((v : Int) < 1) = false) (c2 : decide (4094 < (v : Int)) = false) (hm : Mc.mayB a = false) :
    Calls Try.prog 23 #[tbV room age (some b), keyV v a, .int .i64 p] w fun e w' => e = .returned (.int .i64 3) ∧ Below w.heap.size w w' := by
  have h2 := (h.alloc (.cells (tbC room age (some b)) 32)).alloc (.cells #[.int .u16 (v : Int), .int .u64 (a : Int)] 53)
  have hl := Lib.hid (h2.look hk hin hf)
  have HM := Lib.hid hm
  have HA := Lib.hid hin.2
  clear h h2 hk hf hin hm
  go_enter Try.func23, Try.ntmps23
  go_wp2_with (first | (at_lookup; refine wpList_look _ rfl _ _ _ rfl b _ _ rfl rfl hl.out ?_) | (go_at_call 17; refine (Mc.may_b _ a _ HM.out).mono ?_; rintro e w' ⟨rfl, rfl⟩))
  go_ret
  exact ⟨rfl, below_three w _ _ _⟩
set_option maxRecDepth 100000 in
set_option maxHeartbeats 2000000 in
theorem wrong_f2 (room age p : Int) (v a : Nat) {b : Nat} {l : List Fr} {w : World} {q s : Int} {k : Bool} (h : Mp w b l) (hk : ∀ x ∈ l, okK x) (hin : InK v a) (hf : found (findK l v a) = (q, s, k))
    (c1 : decide ((v : Int) < 1) = false) (c2 : decide (4094 < (v : Int)) = false) (hm : Mc.mayB a = true) (hg : Mc.groupB a = true) :
    Calls Try.prog 23 #[tbV room age (some b), keyV v a, .int .i64 p] w fun e w' => e = .returned (.int .i64 3) ∧ Below w.heap.size w w' := by
  have h2 := (h.alloc (.cells (tbC room age (some b)) 32)).alloc (.cells #[.int .u16 (v : Int), .int .u64 (a : Int)] 53)
  have hl := Lib.hid (h2.look hk hin hf)
  have HM := Lib.hid hm
  have HG := Lib.hid hg
  have HA := Lib.hid hin.2
  clear h h2 hk hf hin hm hg
  go_enter Try.func23, Try.ntmps23
  go_wp2_with (first | (at_lookup; refine wpList_look _ rfl _ _ _ rfl b _ _ rfl rfl hl.out ?_) | (go_at_call 17; refine (Mc.may_b _ a _ HM.out).mono ?_; rintro e w' ⟨rfl, rfl⟩) | (go_at_call 8; refine (Mc.group_b _ a _ HG.out HA.out).mono ?_; rintro e w' ⟨rfl, rfl⟩))
  go_ret
  exact ⟨rfl, below_three w _ _ _⟩
set_option maxRecDepth 100000 in
set_option maxHeartbeats 2000000 in
theorem wrong_p1 (room age p : Int) (v a : Nat) {b : Nat} {l : List Fr} {w : World} {q s : Int} {k : Bool} (h : Mp w b l) (hk : ∀ x ∈ l, okK x) (hin : InK v a) (hf : found (findK l v a) = (q, s, k))
    (c1 : decide ((v : Int) < 1) = false) (c2 : decide (4094 < (v : Int)) = false) (hm : Mc.mayB a = true) (hg : Mc.groupB a = false) (d1 : decide (p < 0) = true) :
    Calls Try.prog 23 #[tbV room age (some b), keyV v a, .int .i64 p] w fun e w' => e = .returned (.int .i64 11) ∧ Below w.heap.size w w' := by
  have h2 := (h.alloc (.cells (tbC room age (some b)) 32)).alloc (.cells #[.int .u16 (v : Int), .int .u64 (a : Int)] 53)
  have hl := Lib.hid (h2.look hk hin hf)
  have HM := Lib.hid hm
  have HG := Lib.hid hg
  have HA := Lib.hid hin.2
  clear h h2 hk hf hin hm hg
  go_enter Try.func23, Try.ntmps23
  go_wp2_with (first | (at_lookup; refine wpList_look _ rfl _ _ _ rfl b _ _ rfl rfl hl.out ?_) | (go_at_call 17; refine (Mc.may_b _ a _ HM.out).mono ?_; rintro e w' ⟨rfl, rfl⟩) | (go_at_call 8; refine (Mc.group_b _ a _ HG.out HA.out).mono ?_; rintro e w' ⟨rfl, rfl⟩))
  go_ret
  exact ⟨rfl, below_three w _ _ _⟩
set_option maxRecDepth 100000 in
set_option maxHeartbeats 2000000 in
theorem wrong_p2 (room age p : Int) (v a : Nat) {b : Nat} {l : List Fr} {w : World} {q s : Int} {k : Bool} (h : Mp w b l) (hk : ∀ x ∈ l, okK x) (hin : InK v a) (hf : found (findK l v a) = (q, s, k))
    (c1 : decide ((v : Int) < 1) = false) (c2 : decide (4094 < (v : Int)) = false) (hm : Mc.mayB a = true) (hg : Mc.groupB a = false) (d1 : decide (p < 0) = false) (d2 : decide (2 < p) = true) :
    Calls Try.prog 23 #[tbV room age (some b), keyV v a, .int .i64 p] w fun e w' => e = .returned (.int .i64 11) ∧ Below w.heap.size w w' := by
  have h2 := (h.alloc (.cells (tbC room age (some b)) 32)).alloc (.cells #[.int .u16 (v : Int), .int .u64 (a : Int)] 53)
  have hl := Lib.hid (h2.look hk hin hf)
  have HM := Lib.hid hm
  have HG := Lib.hid hg
  have HA := Lib.hid hin.2
  clear h h2 hk hf hin hm hg
  go_enter Try.func23, Try.ntmps23
  go_wp2_with (first | (at_lookup; refine wpList_look _ rfl _ _ _ rfl b _ _ rfl rfl hl.out ?_) | (go_at_call 17; refine (Mc.may_b _ a _ HM.out).mono ?_; rintro e w' ⟨rfl, rfl⟩) | (go_at_call 8; refine (Mc.group_b _ a _ HG.out HA.out).mono ?_; rintro e w' ⟨rfl, rfl⟩))
  go_ret
  exact ⟨rfl, below_three w _ _ _⟩
set_option maxRecDepth 100000 in
set_option maxHeartbeats 2000000 in
theorem wrong_u (room age p : Int) (v a : Nat) {b : Nat} {l : List Fr} {w : World} {q s : Int} (h : Mp w b l) (hk : ∀ x ∈ l, okK x) (hin : InK v a) (hf : found (findK l v a) = (q, s, false))
    (c1 : decide ((v : Int) < 1) = false) (c2 : decide (4094 < (v : Int)) = false) (hm : Mc.mayB a = true) (hg : Mc.groupB a = false) (d1 : decide (p < 0) = false) (d2 : decide (2 < p) = false) (hd : decide (room ≤ (l.length : Int)) = true) :
    Calls Try.prog 23 #[tbV room age (some b), keyV v a, .int .i64 p] w fun e w' => e = .returned (.int .i64 9) ∧ Below w.heap.size w w' := by
  have h2 := (h.alloc (.cells (tbC room age (some b)) 32)).alloc (.cells #[.int .u16 (v : Int), .int .u64 (a : Int)] 53)
  have hl := Lib.hid (h2.look hk hin hf)
  have hn := (h2.alloc (.cells #[.int .i64 q, .int .i64 s] 50)).len
  have HM := Lib.hid hm
  have HG := Lib.hid hg
  have HA := Lib.hid hin.2
  clear h h2 hk hf hin hm hg
  go_enter Try.func23, Try.ntmps23
  go_wp2_with (first | (at_lookup; refine wpList_look _ rfl _ _ _ rfl b _ _ rfl rfl hl.out ?_) | (go_at_call 17; refine (Mc.may_b _ a _ HM.out).mono ?_; rintro e w' ⟨rfl, rfl⟩) | (go_at_call 8; refine (Mc.group_b _ a _ HG.out HA.out).mono ?_; rintro e w' ⟨rfl, rfl⟩))
  go_ret
  exact ⟨rfl, below_three w _ _ _⟩
set_option maxRecDepth 100000 in
set_option maxHeartbeats 2000000 in
theorem wrong_k (room age p : Int) (v a : Nat) {b : Nat} {l : List Fr} {w : World} {q s : Int} (h : Mp w b l) (hk : ∀ x ∈ l, okK x) (hin : InK v a) (hf : found (findK l v a) = (q, s, true))
    (c1 : decide ((v : Int) < 1) = false) (c2 : decide (4094 < (v : Int)) = false) (hm : Mc.mayB a = true) (hg : Mc.groupB a = false) (d1 : decide (p < 0) = false) (d2 : decide (2 < p) = false) :
    Calls Try.prog 23 #[tbV room age (some b), keyV v a, .int .i64 p] w fun e w' => e = .returned (.int .i64 0) ∧ Below w.heap.size w w' := by
  have h2 := (h.alloc (.cells (tbC room age (some b)) 32)).alloc (.cells #[.int .u16 (v : Int), .int .u64 (a : Int)] 53)
  have hl := Lib.hid (h2.look hk hin hf)
  have HM := Lib.hid hm
  have HG := Lib.hid hg
  have HA := Lib.hid hin.2
  clear h h2 hk hf hin hm hg
  go_enter Try.func23, Try.ntmps23
  go_wp2_with (first | (at_lookup; refine wpList_look _ rfl _ _ _ rfl b _ _ rfl rfl hl.out ?_) | (go_at_call 17; refine (Mc.may_b _ a _ HM.out).mono ?_; rintro e w' ⟨rfl, rfl⟩) | (go_at_call 8; refine (Mc.group_b _ a _ HG.out HA.out).mono ?_; rintro e w' ⟨rfl, rfl⟩))
  go_ret
  exact ⟨rfl, below_three w _ _ _⟩
set_option maxRecDepth 100000 in
set_option maxHeartbeats 2000000 in
theorem wrong_n (room age p : Int) (v a : Nat) {b : Nat} {l : List Fr} {w : World} {q s : Int} (h : Mp w b l) (hk : ∀ x ∈ l, okK x) (hin : InK v a) (hf : found (findK l v a) = (q, s, false))
    (c1 : decide ((v : Int) < 1) = false) (c2 : decide (4094 < (v : Int)) = false) (hm : Mc.mayB a = true) (hg : Mc.groupB a = false) (d1 : decide (p < 0) = false) (d2 : decide (2 < p) = false) (hd : decide (room ≤ (l.length : Int)) = false) :
    Calls Try.prog 23 #[tbV room age (some b), keyV v a, .int .i64 p] w fun e w' => e = .returned (.int .i64 0) ∧ Below w.heap.size w w' := by
  have h2 := (h.alloc (.cells (tbC room age (some b)) 32)).alloc (.cells #[.int .u16 (v : Int), .int .u64 (a : Int)] 53)
  have hl := Lib.hid (h2.look hk hin hf)
  have hn := (h2.alloc (.cells #[.int .i64 q, .int .i64 s] 50)).len
  have HM := Lib.hid hm
  have HG := Lib.hid hg
  have HA := Lib.hid hin.2
  clear h h2 hk hf hin hm hg
  go_enter Try.func23, Try.ntmps23
  go_wp2_with (first | (at_lookup; refine wpList_look _ rfl _ _ _ rfl b _ _ rfl rfl hl.out ?_) | (go_at_call 17; refine (Mc.may_b _ a _ HM.out).mono ?_; rintro e w' ⟨rfl, rfl⟩) | (go_at_call 8; refine (Mc.group_b _ a _ HG.out HA.out).mono ?_; rintro e w' ⟨rfl, rfl⟩))
  go_ret
  exact ⟨rfl, below_three w _ _ _⟩
/-- why a row can't be learned: 0, if it can -/
def lrnE (room : Int) (l : List Fr) (v a : Nat) (p : Int) : Nat :=
  if v = 0 ∨ 4094 < v then 4 else if Mc.mayB a = false ∨ Mc.groupB a = true then 3 else if p < 0 ∨ 2 < p then 11 else if findK l v a = none ∧ room ≤ (l.length : Int) then 9 else 0
theorem wrong_any {room p : Int} {v a c : Nat} {b : Nat} {l : List Fr} {w : World} (age : Int) (h : Mp w b l) (hk : ∀ x ∈ l, okK x) (hin : InK v a) (hc : lrnE room l v a p = c) :
    Calls Try.prog 23 #[tbV room age (some b), keyV v a, .int .i64 p] w fun e w' => e = .returned (.int .i64 (c : Int)) ∧ Below w.heap.size w w' := by
  subst hc
  have hf : found (findK l v a) = (_, _, _) := rfl
  by_cases c1 : v < 1
  · have : lrnE room l v a p = 4 := by unfold lrnE; rw [if_pos (by omega)]
    rw [this]; exact wrong_r1 room age p v a h hk hin hf (decide_eq_true (by omega))
  have c1' : decide ((v : Int) < 1) = false := decide_eq_false (by omega)
  by_cases c2 : 4094 < v
  · have : lrnE room l v a p = 4 := by unfold lrnE; rw [if_pos (by omega)]
    rw [this]; exact wrong_r2 room age p v a h hk hin hf c1' (decide_eq_true (by omega))
  have c2' : decide (4094 < (v : Int)) = false := decide_eq_false (by omega)
  have e1 : lrnE room l v a p = if Mc.mayB a = false ∨ Mc.groupB a = true then 3 else if p < 0 ∨ 2 < p then 11 else if findK l v a = none ∧ room ≤ (l.length : Int) then 9 else 0 := by unfold lrnE; rw [if_neg (by omega)]
  rw [e1]
  cases hm : Mc.mayB a
  · rw [if_pos (.inl rfl)]; exact wrong_f1 room age p v a h hk hin hf c1' c2' hm
  cases hg : Mc.groupB a
  rotate_left
  · rw [if_pos (.inr rfl)]; exact wrong_f2 room age p v a h hk hin hf c1' c2' hm hg
  rw [if_neg (by simp)]
  by_cases d1 : p < 0
  · rw [if_pos (.inl d1)]; exact wrong_p1 room age p v a h hk hin hf c1' c2' hm hg (decide_eq_true d1)
  by_cases d2 : 2 < p
  · rw [if_pos (.inr d2)]; exact wrong_p2 room age p v a h hk hin hf c1' c2' hm hg (decide_eq_false d1) (decide_eq_true d2)
  rw [if_neg (by omega)]
  cases ho : findK l v a with
  | some x =>
    rw [if_neg (by simp)]
    exact wrong_k room age p v a h hk hin (by rw [ho]; rfl) c1' c2' hm hg (decide_eq_false d1) (decide_eq_false d2)
  | none =>
    by_cases hd : room ≤ (l.length : Int)
    · rw [if_pos ⟨rfl, hd⟩]; exact wrong_u room age p v a h hk hin (by rw [ho]; rfl) c1' c2' hm hg (decide_eq_false d1) (decide_eq_false d2) (decide_eq_true hd)
    · rw [if_neg (fun k => hd k.2)]; exact wrong_n room age p v a h hk hin (by rw [ho]; rfl) c1' c2' hm hg (decide_eq_false d1) (decide_eq_false d2) (decide_eq_false hd)
end Go.Proofs.Yteaghbdeleaanaa.Fd
namespace Go.Proofs.Yteaghbdeleaanaa.Fd
open Go.RowKit Go.Maps Go.Proofs.Yteaghbdeleaanaa.Mm Go.Proofs.Yteaghbdeleaanaa.Tg

theorem info_t : (Try.prog.info? 32).map (·.size) = some 3 := by kernel_rfl
abbrev noT : Array Value := tbC 0 0 none
theorem blk_two (w : World) (t s : TypeId) (x y : Array Value) : Blk ((w.alloc (.cells x t)).alloc (.cells y s)) w.heap.size t x := (Blk.fresh w t x).alloc _
theorem blk_last (w : World) (a b : Obj) (t : TypeId) (x : Array Value) : Blk (((w.alloc a).alloc b).alloc (.cells x t)) (w.heap.size + 2) t x := by
  have := Blk.fresh ((w.alloc a).alloc b) t x
  rwa [show ((w.alloc a).alloc b).heap.size = w.heap.size + 2 by simp] at this
theorem Mp.far {w : World} {b g : Nat} {l : List Fr} (h : Mp w b l) (hne : b ≠ g) (x0 x1 x2 : Value) : Mp (Rw3.set w g x0 x1 x2) b l :=
  World.ownsMap.setCell (World.ownsMap.setCell (World.ownsMap.setCell h (a := ⟨g, 0, none⟩) hne x0) (a := ⟨g, 1, none⟩) hne x1) (a := ⟨g, 2, none⟩) hne x2
theorem clone_any {b : Nat} {l : List Fr} {w : World} (h : Mp w b l) :
    Calls Try.prog 24 #[.map (some b)] w fun e w' => e = .returned (.map (some w.heap.size)) ∧ Mp w' w.heap.size l ∧ Below w.heap.size w w' :=
  (AnyW.maps_Clone_owns Try.cloneT 53 Rs b l.length (toD l) w h).mono fun _ _ ⟨h1, h2, _, h4⟩ => ⟨h1, h2, h4⟩

set_option maxRecDepth 100000 in
set_option maxHeartbeats 1000000 in
theorem with_any (room age : Int) (b b' : Option Nat) (w : World) :
    Calls Try.prog 25 #[tbV room age b, .map b'] w fun e w' => e = .returned (tbV room age b') ∧ Below w.heap.size w w' := by
  go_enter Try.func25, Try.ntmps25
  go_upto_region 1 with (fail)
  have HA := Lib.hid (blk_two w 32 32 (tbC room age b) noT)
  have HR := Lib.hid (fresh_second w (.cells (tbC room age b) 32) 32 noT)
  have HB := Lib.hid (below_two w (.cells (tbC room age b) 32) (.cells noT 32))
  generalize (w.alloc (.cells (tbC room age b) 32)).alloc (.cells noT 32) = w0 at HA HR HB ⊢
  cases Rw3.row HA.out
  cases Rw3.row HR.out
  go_wp2
  (try simp only [Exit.inBlock, Exit.then]); refine bodyPost_ret (results_cell_row rfl _ _ (w.heap.size + 1) 32 _ (0, 0) _ rfl (Rw3.blk_set HR.out _ _ _) Try.underlying32 rfl info_t) rfl ?_
  exact ⟨rfl, Rw3.below_set HB.out (by omega) _ _ _⟩

set_option maxRecDepth 100000 in
set_option maxHeartbeats 1000000 in
theorem new_ok (room age : Int) (w : World) (h : 1 ≤ room ∧ room ≤ 1024) (h' : 1 ≤ age ∧ age ≤ 1048576) :
    Calls Try.prog 4 #[.int .i64 room, .int .i64 age] w fun e w' => ∃ b, e = .returned (.tuple #[tbV room age (some b), .int .i64 0]) ∧ Mp w' b [] ∧ Below w.heap.size w w' := by
  have c1 : decide (room < 1) = false := decide_eq_false (by omega)
  have c2 : decide (1024 < room) = false := decide_eq_false (by omega)
  have c3 : decide (age < 1) = false := decide_eq_false (by omega)
  have c4 : decide (1048576 < age) = false := decide_eq_false (by omega)
  clear h h'
  have hmm := @run_makeMap Try.prog
  go_enter Try.func4, Try.ntmps4
  go_wp2
  (try simp only [Exit.inBlock, Exit.then]); refine bodyPost_ret (results_row2 rfl _ _ w.heap.size 32 _ (0, 0) _ rfl ((Blk.fresh w _ _).alloc _) Try.underlying32 rfl info_t) rfl ?_
  have hm := Mp.new (w.alloc (.cells (tbC room age (some (w.heap.size + 1))) 32))
  rw [show (w.alloc (.cells (tbC room age (some (w.heap.size + 1))) 32)).heap.size = w.heap.size + 1 by simp] at hm
  exact ⟨_, rfl, hm, below_two w _ _⟩

set_option maxRecDepth 100000 in
set_option maxHeartbeats 1000000 in
theorem new_bad_a (room age : Int) (w : World) (c1 : decide (room < 1) = true) :
    Calls Try.prog 4 #[.int .i64 room, .int .i64 age] w fun e w' => e = .returned (.tuple #[tbV 0 0 none, .int .i64 4]) ∧ Below w.heap.size w w' := by
  go_enter Try.func4, Try.ntmps4
  go_wp2
  (try simp only [Exit.inBlock, Exit.then]); refine bodyPost_ret (results_row2 rfl _ _ w.heap.size 32 _ (0, 0) _ rfl (Blk.fresh w _ _) Try.underlying32 rfl info_t) rfl ?_
  exact ⟨rfl, (Below.refl w.heap.size w).alloc (Nat.le_refl _) _⟩

set_option maxRecDepth 100000 in
set_option maxHeartbeats 1000000 in
theorem new_bad_b (room age : Int) (w : World) (c1 : decide (room < 1) = false) (c2 : decide (1024 < room) = true) :
    Calls Try.prog 4 #[.int .i64 room, .int .i64 age] w fun e w' => e = .returned (.tuple #[tbV 0 0 none, .int .i64 4]) ∧ Below w.heap.size w w' := by
  go_enter Try.func4, Try.ntmps4
  go_wp2
  (try simp only [Exit.inBlock, Exit.then]); refine bodyPost_ret (results_row2 rfl _ _ w.heap.size 32 _ (0, 0) _ rfl (Blk.fresh w _ _) Try.underlying32 rfl info_t) rfl ?_
  exact ⟨rfl, (Below.refl w.heap.size w).alloc (Nat.le_refl _) _⟩

set_option maxRecDepth 100000 in
set_option maxHeartbeats 1000000 in
theorem new_bad_c (room age : Int) (w : World) (c1 : decide (room < 1) = false) (c2 : decide (1024 < room) = false) (c3 : decide (age < 1) = true) :
    Calls Try.prog 4 #[.int .i64 room, .int .i64 age] w fun e w' => e = .returned (.tuple #[tbV 0 0 none, .int .i64 4]) ∧ Below w.heap.size w w' := by
  go_enter Try.func4, Try.ntmps4
  go_wp2
  (try simp only [Exit.inBlock, Exit.then]); refine bodyPost_ret (results_row2 rfl _ _ w.heap.size 32 _ (0, 0) _ rfl (Blk.fresh w _ _) Try.underlying32 rfl info_t) rfl ?_
  exact ⟨rfl, (Below.refl w.heap.size w).alloc (Nat.le_refl _) _⟩

set_option maxRecDepth 100000 in
set_option maxHeartbeats 1000000 in
theorem new_bad_d (room age : Int) (w : World) (c1 : decide (room < 1) = false) (c2 : decide (1024 < room) = false) (c3 : decide (age < 1) = false) (c4 : decide (1048576 < age) = true) :
    Calls Try.prog 4 #[.int .i64 room, .int .i64 age] w fun e w' => e = .returned (.tuple #[tbV 0 0 none, .int .i64 4]) ∧ Below w.heap.size w w' := by
  go_enter Try.func4, Try.ntmps4
  go_wp2
  (try simp only [Exit.inBlock, Exit.then]); refine bodyPost_ret (results_row2 rfl _ _ w.heap.size 32 _ (0, 0) _ rfl (Blk.fresh w _ _) Try.underlying32 rfl info_t) rfl ?_
  exact ⟨rfl, (Below.refl w.heap.size w).alloc (Nat.le_refl _) _⟩

theorem new_bad (room age : Int) (w : World) (h : room < 1 ∨ 1024 < room ∨ age < 1 ∨ 1048576 < age) :
    Calls Try.prog 4 #[.int .i64 room, .int .i64 age] w fun e w' => e = .returned (.tuple #[tbV 0 0 none, .int .i64 4]) ∧ Below w.heap.size w w' := by
  by_cases c1 : room < 1
  · exact new_bad_a room age w (decide_eq_true c1)
  by_cases c2 : 1024 < room
  · exact new_bad_b room age w (decide_eq_false c1) (decide_eq_true c2)
  by_cases c3 : age < 1
  · exact new_bad_c room age w (decide_eq_false c1) (decide_eq_false c2) (decide_eq_true c3)
  · exact new_bad_d room age w (decide_eq_false c1) (decide_eq_false c2) (decide_eq_false c3) (decide_eq_true (by omega))

set_option maxRecDepth 100000 in
set_option maxHeartbeats 2000000 in
theorem learn_bad {room age now p : Int} {v a c : Nat} {b : Nat} {l : List Fr} {w : World} (h : Mp w b l) (hk : ∀ x ∈ l, okK x) (hin : InK v a) (hc : lrnE room l v a p = c) (hz : ((c : Int) != 0) = true) :
    Calls Try.prog 14 #[tbV room age (some b), .int .i64 now, .int .u16 (v : Int), .int .u64 (a : Int), .int .i64 p] w fun e w' => e = .returned (.tuple #[tbV room age (some b), .int .i64 (c : Int)]) ∧ Below w.heap.size w w' := by
  have HM := Lib.hid h; have HI := Lib.hid hin; have HK0 := Lib.hid hk; have HC := Lib.hid hc
  clear h hin hk hc
  go_enter Try.func14, Try.ntmps14
  go_upto_region 2 with (fail)
  have HA := Lib.hid ((blk_two w 32 32 (tbC room age (some b)) noT).alloc (.cells #[.int .u16 (v : Int), .int .u64 (a : Int)] 53))
  have HR := Lib.hid ((fresh_second w (.cells (tbC room age (some b)) 32) 32 noT).alloc (.cells #[.int .u16 (v : Int), .int .u64 (a : Int)] 53))
  have HK := Lib.hid (blk_last w (.cells (tbC room age (some b)) 32) (.cells noT 32) 53 #[.int .u16 (v : Int), .int .u64 (a : Int)])
  have HB := Lib.hid (below_three w (.cells (tbC room age (some b)) 32) (.cells noT 32) (.cells #[.int .u16 (v : Int), .int .u64 (a : Int)] 53))
  have HM0 := Lib.hid (HM.out.on HB.out)
  generalize ((w.alloc (.cells (tbC room age (some b)) 32)).alloc (.cells noT 32)).alloc (.cells #[.int .u16 (v : Int), .int .u64 (a : Int)] 53) = w0 at HA HR HK HB HM0 ⊢
  cases Rw3.row HA.out
  cases Rw2.row HK.out
  go_wp2_with fail
  refine (wrong_any age HM0.out HK0.out HI.out HC.out).mono ?_
  rintro e w1 ⟨rfl, hb⟩
  have HA1 := Lib.hid (HA.out.below hb HA.out.lt)
  have HR1 := Lib.hid (HR.out.below hb HR.out.lt)
  have HK1 := Lib.hid (HK.out.below hb HK.out.lt)
  have HM1 := Lib.hid (HM0.out.on hb)
  have HB1 := Lib.hid (HB.out.trans (hb.mono HB.out.size))
  clear hb
  cases Rw3.row HA1.out
  cases Rw3.row HR1.out
  cases Rw2.row HK1.out
  go_wp2
  (try simp only [Exit.inBlock, Exit.then]); refine bodyPost_ret (results_row2 rfl _ _ (w.heap.size + 1) 32 _ (0, 0) _ rfl (Rw3.blk_set HR1.out _ _ _) Try.underlying32 rfl info_t) rfl ?_
  exact ⟨rfl, Rw3.below_set HB1.out (by omega) _ _ _⟩

set_option maxRecDepth 100000 in
set_option maxHeartbeats 2000000 in
theorem learn_good {room age now p : Int} {v a : Nat} {b : Nat} {l : List Fr} {w : World} (h : Mp w b l) (hk : ∀ x ∈ l, okK x) (hr : Rising l) (hn : l.length < maxLen) (hin : InK v a) (hc : lrnE room l v a p = 0) :
    Calls Try.prog 14 #[tbV room age (some b), .int .i64 now, .int .u16 (v : Int), .int .u64 (a : Int), .int .i64 p] w fun e w' => ∃ b', e = .returned (.tuple #[tbV room age (some b'), .int .i64 0]) ∧ Mp w' b' (ins l ⟨v, a, p, now⟩) ∧ Below w.heap.size w w' := by
  have hput := toD_put (x := ⟨v, a, p, now⟩) hin hr hk
  have HP := Lib.hid hput
  clear hput hr
  have HN := Lib.hid hn
  clear hn
  have HM := Lib.hid h; have HI := Lib.hid hin; have HK0 := Lib.hid hk; have HC := Lib.hid hc
  clear h hin hk hc
  go_enter Try.func14, Try.ntmps14
  go_upto_region 2 with (fail)
  have HA := Lib.hid ((blk_two w 32 32 (tbC room age (some b)) noT).alloc (.cells #[.int .u16 (v : Int), .int .u64 (a : Int)] 53))
  have HR := Lib.hid ((fresh_second w (.cells (tbC room age (some b)) 32) 32 noT).alloc (.cells #[.int .u16 (v : Int), .int .u64 (a : Int)] 53))
  have HK := Lib.hid (blk_last w (.cells (tbC room age (some b)) 32) (.cells noT 32) 53 #[.int .u16 (v : Int), .int .u64 (a : Int)])
  have HB := Lib.hid (below_three w (.cells (tbC room age (some b)) 32) (.cells noT 32) (.cells #[.int .u16 (v : Int), .int .u64 (a : Int)] 53))
  have HM0 := Lib.hid (HM.out.on HB.out)
  generalize ((w.alloc (.cells (tbC room age (some b)) 32)).alloc (.cells noT 32)).alloc (.cells #[.int .u16 (v : Int), .int .u64 (a : Int)] 53) = w0 at HA HR HK HB HM0 ⊢
  cases Rw3.row HA.out
  cases Rw2.row HK.out
  go_wp2_with fail
  refine (wrong_any age HM0.out HK0.out HI.out HC.out).mono ?_
  rintro e w1 ⟨rfl, hb⟩
  have HA1 := Lib.hid (HA.out.below hb HA.out.lt)
  have HR1 := Lib.hid (HR.out.below hb HR.out.lt)
  have HK1 := Lib.hid (HK.out.below hb HK.out.lt)
  have HM1 := Lib.hid (HM0.out.on hb)
  have HB1 := Lib.hid (HB.out.trans (hb.mono HB.out.size))
  clear hb
  cases Rw3.row HA1.out
  cases Rw3.row HR1.out
  cases Rw2.row HK1.out
  go_wp2_with fail
  refine (clone_any HM1.out).mono ?_
  rintro e w2 ⟨rfl, hm, hb⟩
  have HA2 := Lib.hid (HA1.out.below hb HA1.out.lt)
  have HR2 := Lib.hid (HR1.out.below hb HR1.out.lt)
  have HK2 := Lib.hid (HK1.out.below hb HK1.out.lt)
  have HB2 := Lib.hid (HB1.out.trans (hb.mono HB1.out.size))
  obtain ⟨b', hb'⟩ : ∃ b', b' = w1.heap.size := ⟨_, rfl⟩
  have L1 : w.heap.size + 1 < b' := by rw [hb']; exact HR1.out.lt
  have L2 : w.heap.size + 2 < b' := by rw [hb']; exact HK1.out.lt
  rw [← hb'] at hm ⊢
  have HM2 := Lib.hid hm
  have HS := Lib.hid hb.size
  clear hb hm hb'
  cases Rw3.row HA2.out
  cases Rw3.row HR2.out
  cases Rw2.row HK2.out
  go_upto_region 7 with (at_mapUpdate; refine wpList_mapUpdate_own _ rfl _ _ _ _ rfl 53 50 law Try.underlying30 Rs b' _ _ rfl HM2.out HN.out _ _ _ rfl rfl (keyK HI.out) _ [] (rs_mk p now) ?_; intro w3 hm hg)
  rw [HP.out] at hm
  have HM3 := Lib.hid (Mp.of hm)
  have HA3 := Lib.hid (HA2.out.grown hg (by intro e; injection e; omega))
  have HR3 := Lib.hid (HR2.out.grown hg (by intro e; injection e; omega))
  have HB3 := Lib.hid (HB2.out.grown hg HB2.out.size (fun k hk => by injection hk; omega))
  clear hm hg
  cases Rw3.row HA3.out
  cases Rw3.row HR3.out
  go_wp2_with fail
  refine (with_any room age (some b) (some b') _).mono ?_
  rintro e w4 ⟨rfl, hb⟩
  have HR4 := Lib.hid (HR3.out.below hb HR3.out.lt)
  have HM4 := Lib.hid (HM3.out.on hb)
  have HB4 := Lib.hid (HB3.out.trans (hb.mono HB3.out.size))
  clear hb
  cases Rw3.row HR4.out
  go_wp2
  (try simp only [Exit.inBlock, Exit.then]); refine bodyPost_ret (results_row2 rfl _ _ (w.heap.size + 1) 32 _ (0, 0) _ rfl (Rw3.blk_set HR4.out _ _ _) Try.underlying32 rfl info_t) rfl ?_
  exact ⟨b', rfl, HM4.out.far (by omega) _ _ _, Rw3.below_set HB4.out (by omega) _ _ _⟩

set_option maxRecDepth 100000 in
set_option maxHeartbeats 2000000 in
theorem look_no {room age now p s y : Int} {v a : Nat} {b : Nat} {l : List Fr} {w : World} (h : Mp w b l) (hk : ∀ x ∈ l, okK x) (hin : InK v a) (hf : found (findK l v a) = (p, s, false)) (hy : IntKind.i64.wrap (s + age) = y) :
    Calls Try.prog 7 #[tbV room age (some b), .int .i64 now, .int .u16 (v : Int), .int .u64 (a : Int)] w fun e w' => e = .returned (.tuple #[.int .i64 (-1), .bool false]) ∧ Below w.heap.size w w' := by
  have hl := Lib.hid ((h.alloc (.cells (tbC room age (some b)) 32)).look hk hin hf)
  have HY := Lib.hid hy
  clear h hk hf hin hy
  go_enter Try.func7, Try.ntmps7
  go_upto_region 2 with (at_lookup; refine wpList_look _ rfl _ _ _ rfl b _ _ rfl rfl hl.out ?_)
  have HA := Lib.hid (blk_two w 32 50 (tbC room age (some b)) #[.int .i64 p, .int .i64 s])
  have HS := Lib.hid (fresh_second w (.cells (tbC room age (some b)) 32) 50 #[.int .i64 p, .int .i64 s])
  have HB := Lib.hid (below_two w (.cells (tbC room age (some b)) 32) (.cells #[.int .i64 p, .int .i64 s] 50))
  clear hl
  generalize (w.alloc (.cells (tbC room age (some b)) 32)).alloc (.cells #[.int .i64 p, .int .i64 s] 50) = w0 at HA HS HB ⊢
  cases Rw3.row HA.out
  cases Rw2.row HS.out
  go_wp2
  go_ret2
  exact ⟨rfl, HB.out⟩

set_option maxRecDepth 100000 in
set_option maxHeartbeats 2000000 in
theorem look_old {room age now p s y : Int} {v a : Nat} {b : Nat} {l : List Fr} {w : World} (h : Mp w b l) (hk : ∀ x ∈ l, okK x) (hin : InK v a) (hf : found (findK l v a) = (p, s, true)) (hy : IntKind.i64.wrap (s + age) = y) (ho : decide (y ≤ now) = true) :
    Calls Try.prog 7 #[tbV room age (some b), .int .i64 now, .int .u16 (v : Int), .int .u64 (a : Int)] w fun e w' => e = .returned (.tuple #[.int .i64 (-1), .bool false]) ∧ Below w.heap.size w w' := by
  have hl := Lib.hid ((h.alloc (.cells (tbC room age (some b)) 32)).look hk hin hf)
  have HY := Lib.hid hy
  clear h hk hf hin hy
  go_enter Try.func7, Try.ntmps7
  go_upto_region 2 with (at_lookup; refine wpList_look _ rfl _ _ _ rfl b _ _ rfl rfl hl.out ?_)
  have HA := Lib.hid (blk_two w 32 50 (tbC room age (some b)) #[.int .i64 p, .int .i64 s])
  have HS := Lib.hid (fresh_second w (.cells (tbC room age (some b)) 32) 50 #[.int .i64 p, .int .i64 s])
  have HB := Lib.hid (below_two w (.cells (tbC room age (some b)) 32) (.cells #[.int .i64 p, .int .i64 s] 50))
  clear hl
  generalize (w.alloc (.cells (tbC room age (some b)) 32)).alloc (.cells #[.int .i64 p, .int .i64 s] 50) = w0 at HA HS HB ⊢
  cases Rw3.row HA.out
  cases Rw2.row HS.out
  go_wp2_with fail
  refine (old_any room age p s now y (some b) _ HY.out).mono ?_
  rintro e w1 ⟨rfl, hb⟩
  have HS1 := Lib.hid (HS.out.below hb HS.out.lt)
  have HB1 := Lib.hid (HB.out.trans (hb.mono HB.out.size))
  clear hb
  cases Rw2.row HS1.out
  go_wp2
  go_ret2
  exact ⟨rfl, HB1.out⟩

set_option maxRecDepth 100000 in
set_option maxHeartbeats 2000000 in
theorem look_new {room age now p s y : Int} {v a : Nat} {b : Nat} {l : List Fr} {w : World} (h : Mp w b l) (hk : ∀ x ∈ l, okK x) (hin : InK v a) (hf : found (findK l v a) = (p, s, true)) (hy : IntKind.i64.wrap (s + age) = y) (ho : decide (y ≤ now) = false) :
    Calls Try.prog 7 #[tbV room age (some b), .int .i64 now, .int .u16 (v : Int), .int .u64 (a : Int)] w fun e w' => e = .returned (.tuple #[.int .i64 p, .bool true]) ∧ Below w.heap.size w w' := by
  have hl := Lib.hid ((h.alloc (.cells (tbC room age (some b)) 32)).look hk hin hf)
  have HY := Lib.hid hy
  clear h hk hf hin hy
  go_enter Try.func7, Try.ntmps7
  go_upto_region 2 with (at_lookup; refine wpList_look _ rfl _ _ _ rfl b _ _ rfl rfl hl.out ?_)
  have HA := Lib.hid (blk_two w 32 50 (tbC room age (some b)) #[.int .i64 p, .int .i64 s])
  have HS := Lib.hid (fresh_second w (.cells (tbC room age (some b)) 32) 50 #[.int .i64 p, .int .i64 s])
  have HB := Lib.hid (below_two w (.cells (tbC room age (some b)) 32) (.cells #[.int .i64 p, .int .i64 s] 50))
  clear hl
  generalize (w.alloc (.cells (tbC room age (some b)) 32)).alloc (.cells #[.int .i64 p, .int .i64 s] 50) = w0 at HA HS HB ⊢
  cases Rw3.row HA.out
  cases Rw2.row HS.out
  go_wp2_with fail
  refine (old_any room age p s now y (some b) _ HY.out).mono ?_
  rintro e w1 ⟨rfl, hb⟩
  have HS1 := Lib.hid (HS.out.below hb HS.out.lt)
  have HB1 := Lib.hid (HB.out.trans (hb.mono HB.out.size))
  clear hb
  cases Rw2.row HS1.out
  go_wp2
  go_ret2
  exact ⟨rfl, HB1.out⟩

/-- what a look-up answers -/
def lookR (l : List Fr) (v a : Nat) (now age : Int) : Int × Bool := match findK l v a with | some x => if now - x.seen < age then (x.port, true) else (-1, false) | none => (-1, false)
theorem look_any {room age now : Int} {v a : Nat} {b : Nat} {l : List Fr} {w : World} {q : Int} {k : Bool} (h : Mp w b l) (hk : ∀ x ∈ l, okK x) (hin : InK v a) (hs : ∀ x ∈ l, 0 ≤ x.seen ∧ x.seen ≤ 1099511627776) (ha : 0 ≤ age ∧ age ≤ 1048576) (hr : lookR l v a now age = (q, k)) :
    Calls Try.prog 7 #[tbV room age (some b), .int .i64 now, .int .u16 (v : Int), .int .u64 (a : Int)] w fun e w' => e = .returned (.tuple #[.int .i64 q, .bool k]) ∧ Below w.heap.size w w' := by
  unfold lookR at hr
  cases ho : findK l v a with
  | none =>
    rw [ho] at hr
    simp only [Prod.mk.injEq] at hr
    rw [← hr.1, ← hr.2]
    exact look_no h hk hin (by rw [ho]; rfl) rfl
  | some x =>
    rw [ho] at hr
    have hx : x ∈ l := List.mem_of_find?_eq_some ho
    have h1 := hs x hx
    have hy : IntKind.i64.wrap (x.seen + age) = x.seen + age := by rw [IntKind.wrap_i64]; omega
    by_cases hd : now - x.seen < age
    · simp only [hd, if_true, Prod.mk.injEq] at hr
      rw [← hr.1, ← hr.2]
      exact look_new h hk hin (by rw [ho]; rfl) hy (decide_eq_false (by omega))
    · simp only [hd, if_false, Prod.mk.injEq] at hr
      rw [← hr.1, ← hr.2]
      exact look_old h hk hin (by rw [ho]; rfl) hy (decide_eq_true (by omega))
end Go.Proofs.Yteaghbdeleaanaa.Fd
