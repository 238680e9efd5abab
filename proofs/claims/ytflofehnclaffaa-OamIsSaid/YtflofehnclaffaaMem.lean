/-
  Words for memory, and small lemmas on them: a block that is known whole; a slice that reads as a list of cells.
-/
import Derived.WalkKit
import Derived.Laws.OwnMore
import Derived.Laws.Rows
import Derived.Deep.Draws
import Derived.Deep.AppendLies
import Derived.Laws.IdiomStrings
namespace Go.Proofs.Ytflofehnclaffaa.Mm
open Go.RowKit

/-- block g is just these cells, none of them frozen -/
def Blk (w : World) (g : Nat) (t : TypeId) (cs : Array Value) : Prop := w.heap[g]? = some (.cells cs t (0, 0))
section
variable {w w' : World} {g : Nat} {t : TypeId} {cs : Array Value}
theorem Blk.lt (h : Blk w g t cs) : g < w.heap.size := by
  unfold Blk at h
  exact (Array.getElem?_eq_some_iff.1 h).1
theorem Blk.cell (h : Blk w g t cs) (i : Nat) : w.cell? ⟨g, i, none⟩ = cs[i]? := cell_of_row w g i cs t (0, 0) h
theorem Blk.frozen (h : Blk w g t cs) (i : Nat) : w.frozen? ⟨g, i, none⟩ = false := by
  unfold Blk at h
  simp [World.frozen?, h]
theorem Blk.fresh (w : World) (t : TypeId) (cs : Array Value) : Blk (w.alloc (.cells cs t)) w.heap.size t cs := heap_alloc_new w _
theorem Blk.drew (h : Blk w g t cs) : Blk w.drew g t cs := h
theorem Blk.drewN (h : Blk w g t cs) (n : Nat) : Blk (w.drewN n) g t cs := h
theorem Blk.alloc (h : Blk w g t cs) (o : Obj) : Blk (w.alloc o) g t cs := (Below.heap_alloc w o g h.lt).trans h
theorem Blk.put (h : Blk w g t cs) (i : Nat) (u : Value) : Blk (w.setCell ⟨g, i, none⟩ u) g t (cs.setIfInBounds i u) := by
  unfold Blk at h ⊢
  simp [World.setCell, Array.getElem?_modify, h]
theorem Blk.far (h : Blk w g t cs) {p : Addr} (hp : g ≠ p.block) (u : Value) : Blk (w.setCell p u) g t cs := (Below.heap_setCell w p u g hp).trans h
theorem Blk.below {B : Nat} (h : Blk w g t cs) (hb : Below B w w') (hg : g < B) : Blk w' g t cs := (hb.block g hg).trans h
theorem Blk.grown {row : Option Nat} (h : Blk w g t cs) (hb : w.grownBy w' row) (hg : some g ≠ row) : Blk w' g t cs := (hb.block g h.lt hg).trans h
end

/-- of w, all but block g is as it was -/
def Only (g : Nat) (w w' : World) : Prop := w.grownBy w' (some g)
section
variable {a w : World} {g : Nat}
theorem Only.refl (g : Nat) (w : World) : Only g w w := World.grownBy.refl w _
theorem Only.drew (h : Only g a w) : Only g a w.drew := ⟨h.os, h.tape, h.output, h.size, h.block⟩
theorem Only.drewN (h : Only g a w) (n : Nat) : Only g a (w.drewN n) := ⟨h.os, h.tape, h.output, h.size, h.block⟩
theorem Only.alloc (h : Only g a w) (o : Obj) : Only g a (w.alloc o) :=
  ⟨h.os, h.tape, h.output, Nat.le_trans h.size (by simp), fun i hi hne => (Below.heap_alloc w o i (Nat.lt_of_lt_of_le hi h.size)).trans (h.block i hi hne)⟩
theorem Only.put (h : Only g a w) (i : Nat) (u : Value) : Only g a (w.setCell ⟨g, i, none⟩ u) :=
  ⟨h.os, h.tape, h.output, by simpa [World.setCell] using h.size, fun k hk hne => (Below.heap_setCell w _ u k (by
    rintro rfl
    exact hne rfl)).trans (h.block k hk hne)⟩
theorem Only.trans {b c : World} (h : Only g a b) (k : Only g b c) : Only g a c :=
  ⟨k.os.trans h.os, k.tape.trans h.tape, k.output.trans h.output, Nat.le_trans h.size k.size, fun i hi hne => (k.block i (Nat.lt_of_lt_of_le hi h.size) hne).trans (h.block i hi hne)⟩
theorem Only.below (h : Only g a w) {B : Nat} (hB : B ≤ g) (hs : B ≤ a.heap.size) : Below B a w :=
  ⟨h.os, h.tape, h.output, h.size, fun k hk => h.block k (Nat.lt_of_lt_of_le hk hs) (by intro e; injection e; omega)⟩
theorem Only.of_below {w' : World} (h : Below w.heap.size w w') : Only g w w' := ⟨h.os, h.tape, h.output, h.size, fun i hi _ => h.block i hi⟩
end

/-- a slice value that holds these cells, below block B -/
def Rd (w : World) (B : Nat) (A : Option Addr) (xs : List Value) : Prop :=
  0 < xs.length → ∃ ad : Addr, A = some ad ∧ ad.block < B ∧ ∀ j u, xs[j]? = some u → w.cell? (ad.add j) = some u
theorem block_add (a : Addr) (n : Nat) : (a.add n).block = a.block := by unfold Addr.add; split <;> rfl
theorem add_add (a : Addr) (i j : Nat) : (a.add i).add j = a.add (i + j) := by
  unfold Addr.add
  by_cases hi : i = 0 <;> by_cases hj : j = 0 <;> simp [hi, hj, Nat.add_assoc]
theorem add_succ (a : Addr) (i : Nat) : a.add (i + 1) = ⟨(a.add i).block, (a.add i).off + 1, none⟩ := by
  rw [← add_add]; rfl
section
variable {w w' : World} {B B' : Nat} {A : Option Addr} {xs : List Value}
theorem Rd.keep (h : Rd w B A xs) (hk : ∀ p : Addr, p.block < B → w'.cell? p = w.cell? p) : Rd w' B A xs := fun hn => by
  obtain ⟨ad, e, hb, hc⟩ := h hn
  exact ⟨ad, e, hb, fun j u hu => (hk _ (by rw [block_add]; exact hb)).trans (hc j u hu)⟩
theorem Rd.below (h : Rd w B A xs) (hb : Below B w w') : Rd w' B A xs := h.keep fun _ hp => hb.cell hp
theorem Rd.more (h : Rd w B A xs) (hB : B ≤ B') : Rd w B' A xs := fun hn => by
  obtain ⟨ad, e, hb, hc⟩ := h hn
  exact ⟨ad, e, by omega, hc⟩
theorem Rd.none (w : World) (B : Nat) (A : Option Addr) : Rd w B A [] := fun h => by simp at h
theorem Rd.of_own {base : Nat} {e : TypeId} {size n c : Nat} (h : w.ownsRow base e size (.slice A n c) n xs) : Rd w w.heap.size A xs := fun hn => by
  have h1 := h.1
  have h2 : 0 < n := by
    rcases Nat.eq_zero_or_pos n with h0 | h0
    · subst h0; simp at h1; subst h1; simp at hn
    · exact h0
  obtain ⟨g, cap, hv, _, hlt⟩ := h.form h2
  have hA : A = some ⟨g, 0, Option.none⟩ := by injection hv
  subst hA
  exact ⟨_, rfl, hlt, h.cells (g := g) rfl⟩
theorem Rd.of_blk {g : Nat} {t : TypeId} {cs : Array Value} (h : Blk w g t cs) (n : Nat) : Rd w w.heap.size (some ⟨g, 0, Option.none⟩) (cs.toList.take n) := fun _ => by
  refine ⟨_, rfl, h.lt, fun j u hu => ?_⟩
  have e : (Addr.mk g 0 Option.none).add j = ⟨g, j, Option.none⟩ := by
    unfold Addr.add
    split
    · rename_i hj; subst hj; rfl
    · simp
  rw [e, h.cell]
  have := List.getElem?_eq_some_iff.1 hu
  obtain ⟨hj, hu'⟩ := this
  rw [List.getElem_take] at hu'
  rw [← hu', ← Array.getElem?_toList]
  exact List.getElem?_eq_getElem _
end

/-- bytes, one a cell -/
def byteCells (m : Nat) (f : Nat → Nat) : Array Value := ((List.range m).map fun k => Value.int .u8 (f k : Nat)).toArray
theorem size_byteCells (m : Nat) (f : Nat → Nat) : (byteCells m f).size = m := by simp [byteCells]
theorem get_byteCells (m : Nat) (f : Nat → Nat) (k : Nat) (h : k < m) : (byteCells m f)[k]? = some (.int .u8 (f k : Nat)) := by simp [byteCells, h]
theorem put_byteCells (m : Nat) (f g : Nat → Nat) (k : Nat) (u : Nat) (hu : u = g k) (hf : ∀ i, i ≠ k → g i = f i) : (byteCells m f).setIfInBounds k (.int .u8 (u : Nat)) = byteCells m g := by
  subst hu
  apply Array.ext
  · simp [byteCells]
  · intro i h1 h2
    rw [Array.getElem_setIfInBounds (by simpa using h1)]
    split
    · rename_i e; subst e; simp [byteCells]
    · rename_i e
      simp [byteCells, hf i (fun h => e h.symm)]
/-- 'string(b)' of bytes that the call itself has made -/
theorem run_back {P : Program} {w : World} {g m : Nat} {t src dst : TypeId} {f : Nat → Nat} (h : Blk w g t (byteCells m f)) (hf : ∀ k, f k < 256) (hs : P.underlying src = some (.slice t)) (he : P.underlying t = some (.int .u8)) (hd : P.underlying dst = some .string) (c : Nat) :
    (convert src dst (.slice (some ⟨g, 0, none⟩) m c)).run P w = .ok (.string ⟨((List.range m).map fun k => UInt8.ofNat (f k)).toArray⟩) w := by
  have e := run_convert_bytes_back (P := P) w src dst t ⟨g, 0, none⟩ c ((List.range m).map fun k => UInt8.ofNat (f k)) hs he hd (fun j hj => by
    have e1 : (Addr.mk g 0 none).add j = ⟨g, j, none⟩ := by
      unfold Addr.add
      split
      · rename_i hj; subst hj; rfl
      · simp
    have hj' : j < m := by simpa using hj
    rw [e1, h.cell, get_byteCells _ _ _ hj']
    simp [Nat.mod_eq_of_lt (hf j)])
  have el : ((List.range m).map fun k => UInt8.ofNat (f k)).length = m := by simp
  rw [el] at e
  exact e

/-- numbers, one a cell -/
def numCells (kd : IntKind) (m : Nat) (f : Nat → Nat) : Array Value := ((List.range m).map fun k => Value.int kd (f k : Nat)).toArray
theorem size_numCells (kd : IntKind) (m : Nat) (f : Nat → Nat) : (numCells kd m f).size = m := by simp [numCells]
theorem get_numCells (kd : IntKind) (m : Nat) (f : Nat → Nat) (k : Nat) (h : k < m) : (numCells kd m f)[k]? = some (.int kd (f k : Nat)) := by simp [numCells, h]
theorem put_numCells (kd : IntKind) (m : Nat) (f g : Nat → Nat) (k : Nat) (u : Nat) (hu : u = g k) (hf : ∀ i, i ≠ k → g i = f i) : (numCells kd m f).setIfInBounds k (.int kd (u : Nat)) = numCells kd m g := by
  subst hu
  apply Array.ext
  · simp [numCells]
  · intro i h1 h2
    rw [Array.getElem_setIfInBounds (by simpa using h1)]
    split
    · rename_i e; subst e; simp [numCells]
    · rename_i e
      simp [numCells, hf i (fun h => e h.symm)]
theorem numCells_congr {kd : IntKind} {m : Nat} {f g : Nat → Nat} (h : ∀ i, i < m → f i = g i) : numCells kd m f = numCells kd m g := by
  unfold numCells
  congr 1
  apply List.map_congr_left
  intro k hk
  rw [h k (by simpa using hk)]
theorem made_nums (kd : IntKind) (m : Nat) : madeCells (Value.int kd 0).cells (m * 1) = numCells kd m (fun _ => 0) := by
  apply Array.ext
  · simp [madeCells, numCells, Value.cells]
  · intro i h1 h2
    simp [madeCells, numCells, Value.cells, Nat.mod_one]
/-- as a list -/
def nums (kd : IntKind) (l : List Nat) : List Value := l.map fun x => Value.int kd (x : Nat)
theorem numCells_list (kd : IntKind) (l : List Nat) : (numCells kd l.length (fun i => l.getD i 0)).toList = nums kd l := by
  apply List.ext_getElem
  · simp [numCells, nums]
  · intro i h1 h2
    simp [numCells, nums] at h1 h2 ⊢
    simp [h2]

/-! ### rows that the call owns -/
section
variable {w w' : World} {base n n' : Nat} {e e' : TypeId} {size size' : Nat} {v v' : Value} {xs xs' : List Value}
theorem own_slice (h : w.ownsRow base e size v n xs) : ∃ A c, v = .slice A n c := by
  rcases h.2 with ⟨h1, h0⟩ | ⟨g, cap, cur, hv, _⟩
  · subst h0; exact ⟨_, _, h1⟩
  · exact ⟨_, _, hv⟩
theorem own_below (h : w.ownsRow base e size v n xs) (hb : Below w.heap.size w w') : w'.ownsRow base e size v n xs := by
  have hg : w.grownBy w' none := ⟨hb.os, hb.tape, hb.output, hb.size, fun i hi _ => hb.block i hi⟩
  refine h.kept hg ?_
  cases hv : v.ownBlock with
  | none => exact .inl rfl
  | some k => exact .inr (by intro e; cases e)
theorem own_ne (h : w.ownsRow base e size v n xs) (h' : w.ownsRow base e' size' v' n' xs') (hne : e ≠ e') : v.ownBlock = none ∨ v.ownBlock ≠ v'.ownBlock := by
  rcases h.2 with ⟨rfl, _⟩ | ⟨g, cap, cur, rfl, _, hh, _⟩
  · exact .inl rfl
  · rcases h'.2 with ⟨rfl, _⟩ | ⟨g', cap', cur', rfl, _, hh', _⟩
    · exact .inr (by simp [Value.ownBlock])
    · refine .inr ?_
      simp only [Value.ownBlock]
      intro eq
      injection eq with eq
      subst eq
      rw [hh] at hh'
      injection hh' with hh'
      injection hh' with _ ht
      exact hne ht
theorem own_drew (h : w.ownsRow base e size v n xs) : w.drew.ownsRow base e size v n xs := h
theorem own_drewN (h : w.ownsRow base e size v n xs) (k : Nat) : (w.drewN k).ownsRow base e size v n xs := h
/-- a cell of an owned row of one-cell elements -/
theorem own_cell {A : Option Addr} {c : Nat} (h : w.ownsRow base e 1 (.slice A n c) n xs) (hn : 0 < n) : ∃ g, A = some ⟨g, 0, none⟩ ∧ base ≤ g ∧ g < w.heap.size ∧ (∀ j, j < n → w.cell? ⟨g, j, none⟩ = xs[j]?) ∧ ∀ j, w.frozen? ⟨g, j, none⟩ = false := by
  obtain ⟨g, cap, hv, hb, hl⟩ := h.form hn
  injection hv with hA _ hc
  subst hA hc
  exact ⟨g, rfl, hb, hl, fun j hj => h.cellAt j (by omega), fun j => h.frozenAt j⟩
theorem below_grow (hb : Below w.heap.size w w') : w.grownBy w' none := ⟨hb.os, hb.tape, hb.output, hb.size, fun i hi _ => hb.block i hi⟩
/-- an append onto an owned row turns nothing that lay below its base -/
theorem below_own {w0 : World} (hb : Below base w0 w) (h : w.ownsRow base e size v n xs) (hB : base ≤ w.heap.size) (hg : w.grownBy w' v.ownBlock) : Below base w0 w' :=
  hb.grown hg hB (fun k hk => (h.lt k hk).1)
end
theorem one_nums (kd : IntKind) (l : List Nat) : ∀ u ∈ nums kd l, u.oneCell' = true := by
  intro u hu
  simp only [nums, List.mem_map] at hu
  obtain ⟨x, _, rfl⟩ := hu
  rfl
theorem length_nums (kd : IntKind) (l : List Nat) : (nums kd l).length = l.length := by simp [nums]
theorem nums_append (kd : IntKind) (l r : List Nat) : nums kd l ++ nums kd r = nums kd (l ++ r) := by simp [nums]
theorem get_nums (kd : IntKind) (l : List Nat) (i : Nat) (h : i < l.length) : (nums kd l)[i]? = some (.int kd (l.getD i 0 : Nat)) := by simp [nums, h]
theorem add_zero_block (g j : Nat) : (Addr.mk g 0 none).add j = ⟨g, j, none⟩ := by
  unfold Addr.add
  split
  · rename_i hj; subst hj; rfl
  · simp
theorem blk_nums {w : World} {g : Nat} {t : TypeId} {kd : IntKind} {l : List Nat} {n : Nat} (hn : n = l.length) {f : Nat → Nat} (hf : ∀ i, i < n → f i = l.getD i 0) (h : Blk w g t (numCells kd n f)) :
    ∀ j u, (nums kd l)[j]? = some u → w.cell? ((Addr.mk g 0 none).add j) = some u := by
  intro j u hu
  have hj : j < l.length := by
    have := (List.getElem?_eq_some_iff.1 hu).1
    simpa [nums] using this
  rw [add_zero_block, h.cell, get_numCells _ _ _ _ (by omega), hf j (by omega), ← hu, get_nums _ _ _ hj]
theorem rd_nums {w : World} {g : Nat} {t : TypeId} {kd : IntKind} {l : List Nat} {n : Nat} (hn : n = l.length) {f : Nat → Nat} (hf : ∀ i, i < n → f i = l.getD i 0) (h : Blk w g t (numCells kd n f)) : Rd w w.heap.size (some ⟨g, 0, none⟩) (nums kd l) :=
  fun _ => ⟨_, rfl, h.lt, blk_nums hn hf h⟩
theorem below_drewN {B : Nat} {a w : World} (h : Below B a w) (n : Nat) : Below B a (w.drewN n) := ⟨h.os, h.tape, h.output, h.size, h.block⟩
/-- one cell that lies in a new block -/
theorem cell_new (w : World) (t : TypeId) (u : Value) : ∀ j x, [u][j]? = some x → (w.alloc (.cells #[u] t)).cell? ((Addr.mk w.heap.size 0 none).add j) = some x := by
  intro j x hx
  rw [add_zero_block, (Blk.fresh w t #[u]).cell]
  rw [← hx]
  simp
/-- cells that lie in a new block -/
theorem cells_new (w : World) (t : TypeId) (cs : Array Value) (xs : List Value) (g : Nat) (hg : g = w.heap.size) (hx : cs.toList = xs) : ∀ j x, xs[j]? = some x → (w.alloc (.cells cs t)).cell? ((Addr.mk g 0 none).add j) = some x := by
  intro j x hx'
  subst hg hx
  rw [add_zero_block, (Blk.fresh w t cs).cell]
  rw [← hx', Array.getElem?_toList]
/-- bytes as cells -/
def byteVals (l : List UInt8) : List Value := l.map fun b => Value.int .u8 (b.toNat : Nat)
theorem own_back {P : Program} {w : World} {base : Nat} {e src dst : TypeId} {A : Option Addr} {n c : Nat} {l : List UInt8} (h : w.ownsRow base e 1 (.slice A n c) n (byteVals l)) (hs : P.underlying src = some (.slice e)) (he : P.underlying e = some (.int .u8)) (hd : P.underlying dst = some .string) :
    (convert src dst (.slice A n c)).run P w = .ok (.string ⟨l.toArray⟩) w := by
  have hl : l.length = n := by have := h.1; simp [byteVals] at this; omega
  rcases Nat.eq_zero_or_pos n with h0 | h0
  · subst h0
    have : l = [] := List.eq_nil_of_length_eq_zero hl
    subst this
    rw [run_convert_bytes_string w src dst e _ 0 c hs he hd]
    cases A <;> simp [Conv.bytesToString, loadCells] <;> rfl
  · obtain ⟨g, rfl, _, _, hc, _⟩ := own_cell h h0
    have e1 := run_convert_bytes_back (P := P) w src dst e ⟨g, 0, none⟩ c l hs he hd (fun j hj => by
      rw [add_zero_block, hc j (by omega)]
      simp [byteVals, hj])
    rw [hl] at e1
    exact e1
end Go.Proofs.Ytflofehnclaffaa.Mm
