/-
  Plain lemmas on bits, bytes and numbers: no program is spoken of here.
  Words for memory, and small lemmas on them: a block that is known whole; a slice that reads as a list of cells.
  Contracts of field's small functions: mayWidth, Noughts, getBits.
  Contracts of field's putBits and Pack.
  Contract of field's Pack.
  Contract of field's Split.
  Plain lemmas: what is packed is split as it was; what is split is packed as it was.
  Plain lemmas: bits joined, bytes joined, numbers as so many bytes.
-/
import Derived.WalkKit
import Derived.Laws.OwnMore
import Derived.Laws.Rows
import Derived.Deep.Draws
import Derived.Deep.AppendLies
import Derived.Laws.IdiomStrings
import Derived.Test.YtphndajaehofoaaDoorProg
import Derived.WalkSpells
import Derived.WalkLawsBesides
import Derived.Laws.BitsAllLaws
import Derived.Lib.Hide
import Derived.Outline
import Derived.RegionTactic
import Derived.BigRegion
import Derived.Deep.QuietTactic
import Derived.BigQuiet
namespace Go.Proofs.YtphndajaehofoaaDoor.Bt

/-- the bits of a number, so many, the highest first -/
def bitsN (v n : Nat) : List Nat := (List.range n).map fun i => v / 2 ^ (n - 1 - i) % 2
/-- the number of bits, the highest first -/
def val (l : List Nat) : Nat := l.foldl (fun a b => 2 * a + b) 0
def Bin (l : List Nat) : Prop := ∀ x ∈ l, x < 2
def nth (l : List Nat) (i : Nat) : Nat := l.getD i 0
/-- byte k of bits -/
def byteF (f : Nat → Nat) (k : Nat) : Nat :=
  f (8 * k + 0) * 128 + f (8 * k + 1) * 64 + f (8 * k + 2) * 32 + f (8 * k + 3) * 16 + f (8 * k + 4) * 8 + f (8 * k + 5) * 4 + f (8 * k + 6) * 2 + f (8 * k + 7)
/-- the bits ahead of place m alone -/
def upTo (l : List Nat) (m i : Nat) : Nat := if i < m then nth l i else 0
/-- whole bytes of bits -/
def bytesOf (l : List Nat) : List UInt8 := (List.range (l.length / 8)).map fun k => UInt8.ofNat (byteF (nth l) k)
/-- bits of bytes -/
def bitsB (s : List UInt8) : List Nat := s.flatMap fun c => bitsN c.toNat 8

@[simp] theorem length_bitsN (v n : Nat) : (bitsN v n).length = n := by simp [bitsN]
theorem bin_bitsN (v n : Nat) : Bin (bitsN v n) := by
  intro x hx
  simp only [bitsN, List.mem_map] at hx
  obtain ⟨i, _, rfl⟩ := hx
  omega
theorem nth_bitsN (v n i : Nat) (h : i < n) : nth (bitsN v n) i = v / 2 ^ (n - 1 - i) % 2 := by
  simp [nth, bitsN, List.getD_eq_getElem?_getD, h]
theorem nth_lt {l : List Nat} (h : Bin l) (i : Nat) : nth l i < 2 := by
  unfold nth
  rw [List.getD_eq_getElem?_getD]
  rcases Nat.lt_or_ge i l.length with hi | hi
  · rw [List.getElem?_eq_getElem hi]; exact h _ (List.getElem_mem hi)
  · rw [List.getElem?_eq_none hi]; simp
theorem Bin.append {l r : List Nat} (h : Bin l) (k : Bin r) : Bin (l ++ r) := by
  intro x hx
  rcases List.mem_append.1 hx with hx | hx
  · exact h x hx
  · exact k x hx
theorem Bin.nil : Bin [] := by intro x hx; cases hx
theorem Bin.take {l : List Nat} (h : Bin l) (n : Nat) : Bin (l.take n) := fun x hx => h x (List.mem_of_mem_take hx)
theorem Bin.drop {l : List Nat} (h : Bin l) (n : Nat) : Bin (l.drop n) := fun x hx => h x (List.mem_of_mem_drop hx)
theorem nth_append_left (l r : List Nat) (i : Nat) (h : i < l.length) : nth (l ++ r) i = nth l i := by
  simp [nth, List.getD_eq_getElem?_getD, List.getElem?_append_left h]
theorem nth_append_right (l r : List Nat) (i : Nat) : nth (l ++ r) (l.length + i) = nth r i := by
  simp [nth, List.getD_eq_getElem?_getD, List.getElem?_append_right (Nat.le_add_right _ _)]
theorem nth_drop (l : List Nat) (k i : Nat) : nth (l.drop k) i = nth l (k + i) := by
  simp [nth, List.getD_eq_getElem?_getD]
theorem nth_take (l : List Nat) (k i : Nat) (h : i < k) : nth (l.take k) i = nth l i := by
  simp [nth, List.getD_eq_getElem?_getD, h]
theorem nth_ge (l : List Nat) (i : Nat) (h : l.length ≤ i) : nth l i = 0 := by
  simp [nth, List.getD_eq_getElem?_getD, List.getElem?_eq_none h]
theorem getElem_eq_nth (l : List Nat) (i : Nat) (h : i < l.length) : l[i] = nth l i := by
  simp [nth, List.getD_eq_getElem?_getD, List.getElem?_eq_getElem h]
theorem ext_nth {l r : List Nat} (hl : l.length = r.length) (h : ∀ i, i < l.length → nth l i = nth r i) : l = r := by
  apply List.ext_getElem hl
  intro i h1 h2
  rw [getElem_eq_nth l i h1, getElem_eq_nth r i h2]
  exact h i h1
theorem take_succ_nth (l : List Nat) (k : Nat) (h : k < l.length) : l.take (k + 1) = l.take k ++ [nth l k] := by
  rw [List.take_succ_eq_append_getElem h, getElem_eq_nth l k h]

/-! ### numbers -/
theorem val_snoc (l : List Nat) (b : Nat) : val (l ++ [b]) = 2 * val l + b := by simp [val]
theorem val_nil : val [] = 0 := rfl
theorem val_lt {l : List Nat} (h : Bin l) : val l < 2 ^ l.length := by
  obtain ⟨n, hn⟩ : ∃ n, n = l.length := ⟨_, rfl⟩
  induction n generalizing l with
  | zero => have : l = [] := List.eq_nil_of_length_eq_zero hn.symm; subst this; simp [val]
  | succ n ih =>
    have hne : l ≠ [] := by intro e; subst e; simp at hn
    obtain ⟨r, b, rfl⟩ : ∃ r b, l = r ++ [b] := ⟨l.dropLast, l.getLast hne, (List.dropLast_concat_getLast hne).symm⟩
    have hr : n = r.length := by simp at hn; exact hn
    have h1 := ih (l := r) (fun x hx => h x (List.mem_append_left _ hx)) hr
    have hb : b < 2 := h b (by simp)
    rw [val_snoc, List.length_append, List.length_singleton, Nat.pow_succ]
    omega
theorem bitsN_zero (v : Nat) : bitsN v 0 = [] := rfl
theorem bitsN_snoc (v n : Nat) : bitsN v (n + 1) = bitsN (v / 2) n ++ [v % 2] := by
  apply ext_nth
  · simp
  · intro i hi
    simp at hi
    rcases Nat.lt_or_ge i n with h | h
    · rw [nth_bitsN _ _ _ hi, nth_append_left _ _ _ (by simpa using h), nth_bitsN _ _ _ h]
      have e : n + 1 - 1 - i = (n - 1 - i) + 1 := by omega
      rw [e, Nat.pow_succ, Nat.mul_comm, Nat.div_div_eq_div_mul]
    · have e : i = (bitsN (v / 2) n).length + 0 := by simp; omega
      rw [nth_bitsN _ _ _ hi]
      have e2 : n + 1 - 1 - i = 0 := by omega
      rw [e2, e, nth_append_right]
      simp [nth]
theorem val_bitsN (n : Nat) : ∀ v, val (bitsN v n) = v % 2 ^ n := by
  induction n with
  | zero => intro v; simp [bitsN, val, Nat.mod_one]
  | succ n ih =>
    intro v
    rw [bitsN_snoc, val_snoc, ih, Nat.pow_succ, Nat.mul_comm (2 ^ n) 2, Nat.mod_mul]
    omega
theorem bitsN_val {l : List Nat} (h : Bin l) : bitsN (val l) l.length = l := by
  obtain ⟨n, hn⟩ : ∃ n, n = l.length := ⟨_, rfl⟩
  induction n generalizing l with
  | zero => have : l = [] := List.eq_nil_of_length_eq_zero hn.symm; subst this; rfl
  | succ n ih =>
    have hne : l ≠ [] := by intro e; subst e; simp at hn
    obtain ⟨r, b, rfl⟩ : ∃ r b, l = r ++ [b] := ⟨l.dropLast, l.getLast hne, (List.dropLast_concat_getLast hne).symm⟩
    have hr : n = r.length := by simp at hn; exact hn
    have h1 := ih (l := r) (fun x hx => h x (List.mem_append_left _ hx)) hr
    have hb : b < 2 := h b (by simp)
    have e1 : (r ++ [b]).length = r.length + 1 := by simp
    rw [e1, val_snoc, bitsN_snoc]
    have e2 : (2 * val r + b) / 2 = val r := by omega
    have e3 : (2 * val r + b) % 2 = b := by omega
    rw [e2, e3, h1]

/-! ### bytes -/
theorem byteF_lt {f : Nat → Nat} (h : ∀ i, f i < 2) (k : Nat) : byteF f k < 256 := by
  have h0 := h (8 * k + 0); have h1 := h (8 * k + 1); have h2 := h (8 * k + 2); have h3 := h (8 * k + 3)
  have h4 := h (8 * k + 4); have h5 := h (8 * k + 5); have h6 := h (8 * k + 6); have h7 := h (8 * k + 7)
  unfold byteF
  omega
theorem byteF_congr {f g : Nat → Nat} {k : Nat} (h : ∀ j, j < 8 → f (8 * k + j) = g (8 * k + j)) : byteF f k = byteF g k := by
  unfold byteF
  rw [h 0 (by omega), h 1 (by omega), h 2 (by omega), h 3 (by omega), h 4 (by omega), h 5 (by omega), h 6 (by omega), h 7 (by omega)]
theorem upTo_lt {l : List Nat} (h : Bin l) (m i : Nat) : upTo l m i < 2 := by
  unfold upTo
  split
  · exact nth_lt h i
  · omega
theorem byteF_zero (l : List Nat) (k : Nat) : byteF (upTo l 0) k = 0 := by simp [byteF, upTo]
theorem byteF_full (l : List Nat) (k : Nat) : byteF (upTo l l.length) k = byteF (nth l) k := by
  apply byteF_congr
  intro j _
  unfold upTo
  split
  · rfl
  · rw [nth_ge]; omega
/-- one bit more, elsewhere -/
theorem byteF_far (l : List Nat) (m k : Nat) (h : k ≠ m / 8) : byteF (upTo l (m + 1)) k = byteF (upTo l m) k := by
  apply byteF_congr
  intro j hj
  unfold upTo
  by_cases e : 8 * k + j < m
  · rw [if_pos e, if_pos (by omega)]
  · rw [if_neg e, if_neg (by omega)]
/-- one bit more -/
theorem byteF_near (l : List Nat) (m : Nat) : byteF (upTo l (m + 1)) (m / 8) = byteF (upTo l m) (m / 8) + nth l m * 2 ^ (7 - m % 8) ∧ byteF (upTo l m) (m / 8) % 2 ^ (8 - m % 8) = 0 := by
  obtain ⟨q, j, rfl, hj⟩ : ∃ q j, m = 8 * q + j ∧ j < 8 := ⟨m / 8, m % 8, by omega, by omega⟩
  have e1 : (8 * q + j) / 8 = q := by omega
  have e2 : (8 * q + j) % 8 = j := by omega
  rw [e1, e2]
  have lo : ∀ i, i < j → upTo l (8 * q + j) (8 * q + i) = nth l (8 * q + i) := fun i hi => by unfold upTo; rw [if_pos (by omega)]
  have hi : ∀ i, j ≤ i → upTo l (8 * q + j) (8 * q + i) = 0 := fun i hi => by unfold upTo; rw [if_neg (by omega)]
  have lo' : ∀ i, i < j + 1 → upTo l (8 * q + j + 1) (8 * q + i) = nth l (8 * q + i) := fun i hi => by unfold upTo; rw [if_pos (by omega)]
  have hi' : ∀ i, j + 1 ≤ i → upTo l (8 * q + j + 1) (8 * q + i) = 0 := fun i hi => by unfold upTo; rw [if_neg (by omega)]
  unfold byteF
  rcases (by omega : j = 0 ∨ j = 1 ∨ j = 2 ∨ j = 3 ∨ j = 4 ∨ j = 5 ∨ j = 6 ∨ j = 7) with rfl | rfl | rfl | rfl | rfl | rfl | rfl | rfl
  · rw [lo' 0 (by omega), hi' 1 (by omega), hi' 2 (by omega), hi' 3 (by omega), hi' 4 (by omega), hi' 5 (by omega), hi' 6 (by omega), hi' 7 (by omega), hi 0 (by omega), hi 1 (by omega), hi 2 (by omega), hi 3 (by omega), hi 4 (by omega), hi 5 (by omega), hi 6 (by omega), hi 7 (by omega)]
    omega
  · rw [lo' 0 (by omega), lo' 1 (by omega), hi' 2 (by omega), hi' 3 (by omega), hi' 4 (by omega), hi' 5 (by omega), hi' 6 (by omega), hi' 7 (by omega), lo 0 (by omega), hi 1 (by omega), hi 2 (by omega), hi 3 (by omega), hi 4 (by omega), hi 5 (by omega), hi 6 (by omega), hi 7 (by omega)]
    omega
  · rw [lo' 0 (by omega), lo' 1 (by omega), lo' 2 (by omega), hi' 3 (by omega), hi' 4 (by omega), hi' 5 (by omega), hi' 6 (by omega), hi' 7 (by omega), lo 0 (by omega), lo 1 (by omega), hi 2 (by omega), hi 3 (by omega), hi 4 (by omega), hi 5 (by omega), hi 6 (by omega), hi 7 (by omega)]
    omega
  · rw [lo' 0 (by omega), lo' 1 (by omega), lo' 2 (by omega), lo' 3 (by omega), hi' 4 (by omega), hi' 5 (by omega), hi' 6 (by omega), hi' 7 (by omega), lo 0 (by omega), lo 1 (by omega), lo 2 (by omega), hi 3 (by omega), hi 4 (by omega), hi 5 (by omega), hi 6 (by omega), hi 7 (by omega)]
    omega
  · rw [lo' 0 (by omega), lo' 1 (by omega), lo' 2 (by omega), lo' 3 (by omega), lo' 4 (by omega), hi' 5 (by omega), hi' 6 (by omega), hi' 7 (by omega), lo 0 (by omega), lo 1 (by omega), lo 2 (by omega), lo 3 (by omega), hi 4 (by omega), hi 5 (by omega), hi 6 (by omega), hi 7 (by omega)]
    omega
  · rw [lo' 0 (by omega), lo' 1 (by omega), lo' 2 (by omega), lo' 3 (by omega), lo' 4 (by omega), lo' 5 (by omega), hi' 6 (by omega), hi' 7 (by omega), lo 0 (by omega), lo 1 (by omega), lo 2 (by omega), lo 3 (by omega), lo 4 (by omega), hi 5 (by omega), hi 6 (by omega), hi 7 (by omega)]
    omega
  · rw [lo' 0 (by omega), lo' 1 (by omega), lo' 2 (by omega), lo' 3 (by omega), lo' 4 (by omega), lo' 5 (by omega), lo' 6 (by omega), hi' 7 (by omega), lo 0 (by omega), lo 1 (by omega), lo 2 (by omega), lo 3 (by omega), lo 4 (by omega), lo 5 (by omega), hi 6 (by omega), hi 7 (by omega)]
    omega
  · rw [lo' 0 (by omega), lo' 1 (by omega), lo' 2 (by omega), lo' 3 (by omega), lo' 4 (by omega), lo' 5 (by omega), lo' 6 (by omega), lo' 7 (by omega), lo 0 (by omega), lo 1 (by omega), lo 2 (by omega), lo 3 (by omega), lo 4 (by omega), lo 5 (by omega), lo 6 (by omega), hi 7 (by omega)]
    omega
/-- a bit is set by 'or' -/
theorem or_bit (x b s : Nat) (hx : x % 2 ^ (s + 1) = 0) (hb : b < 2) : x ||| b * 2 ^ s = x + b * 2 ^ s := by
  have h : x = 2 ^ (s + 1) * (x / 2 ^ (s + 1)) := by have := Nat.div_add_mod x (2 ^ (s + 1)); omega
  have hlt : b * 2 ^ s < 2 ^ (s + 1) := by
    rw [Nat.pow_succ]
    rcases (by omega : b = 0 ∨ b = 1) with rfl | rfl
    · have := Nat.two_pow_pos s; omega
    · have := Nat.two_pow_pos s; omega
  rw [h, Nat.two_pow_add_eq_or_of_lt hlt]
theorem byte_val (l : List Nat) (h : l.length = 8) : val l = byteF (nth l) 0 := by
  match l, h with
  | [a, b, c, d, e, f, g, i], _ => simp [val, byteF, nth]; omega
theorem length_bitsB (s : List UInt8) : (bitsB s).length = 8 * s.length := by
  induction s with
  | nil => rfl
  | cons c s ih => simp [bitsB] at ih ⊢; omega
theorem bitsB_cons (c : UInt8) (s : List UInt8) : bitsB (c :: s) = bitsN c.toNat 8 ++ bitsB s := rfl
theorem bitsB_append (s t : List UInt8) : bitsB (s ++ t) = bitsB s ++ bitsB t := by simp [bitsB]
theorem bin_bitsB (s : List UInt8) : Bin (bitsB s) := by
  induction s with
  | nil => exact Bin.nil
  | cons c s ih => rw [bitsB_cons]; exact (bin_bitsN _ _).append ih
/-- a bit of bytes -/
theorem nth_bitsB : ∀ (s : List UInt8) (i : Nat) (h : i / 8 < s.length), nth (bitsB s) i = (s[i / 8]).toNat / 2 ^ (7 - i % 8) % 2
  | [], i, h => by simp at h
  | c :: s, i, h => by
    rw [bitsB_cons]
    rcases Nat.lt_or_ge i 8 with hi | hi
    · rw [nth_append_left _ _ _ (by simpa using hi), nth_bitsN _ _ _ hi]
      have e : i / 8 = 0 := by omega
      have e2 : i % 8 = i := by omega
      simp only [e, e2, List.getElem_cons_zero]
    · obtain ⟨k, rfl⟩ : ∃ k, i = 8 + k := ⟨i - 8, by omega⟩
      have e := nth_append_right (bitsN c.toNat 8) (bitsB s) k
      rw [length_bitsN] at e
      rw [e, nth_bitsB s k (by simp at h; omega)]
      have e1 : (8 + k) / 8 = k / 8 + 1 := by omega
      have e2 : (8 + k) % 8 = k % 8 := by omega
      simp only [e1, e2, List.getElem_cons_succ]
@[simp] theorem length_bytesOf (l : List Nat) : (bytesOf l).length = l.length / 8 := by simp [bytesOf]
theorem ofNat_toNat (n : Nat) (h : n < 256) : (UInt8.ofNat n).toNat = n := by simp [Nat.mod_eq_of_lt h]
/-- bytes of bits, and back -/
theorem bitsB_bytesOf {l : List Nat} (h : Bin l) (h8 : l.length % 8 = 0) : bitsB (bytesOf l) = l := by
  apply ext_nth
  · rw [length_bitsB, length_bytesOf]; omega
  · intro i hi
    rw [length_bitsB, length_bytesOf] at hi
    have hk : i / 8 < l.length / 8 := by omega
    rw [nth_bitsB _ _ (by simpa using hk)]
    have e : (bytesOf l)[i / 8]'(by simpa using hk) = UInt8.ofNat (byteF (nth l) (i / 8)) := by simp [bytesOf]
    rw [e, ofNat_toNat _ (byteF_lt (fun i => nth_lt h i) _)]
    obtain ⟨q, j, rfl, hj⟩ : ∃ q j, i = 8 * q + j ∧ j < 8 := ⟨i / 8, i % 8, by omega, by omega⟩
    have e1 : (8 * q + j) / 8 = q := by omega
    have e2 : (8 * q + j) % 8 = j := by omega
    rw [e1, e2]
    have h0 := nth_lt h (8 * q + 0); have h1 := nth_lt h (8 * q + 1); have h2 := nth_lt h (8 * q + 2); have h3 := nth_lt h (8 * q + 3)
    have h4 := nth_lt h (8 * q + 4); have h5 := nth_lt h (8 * q + 5); have h6 := nth_lt h (8 * q + 6); have h7 := nth_lt h (8 * q + 7)
    unfold byteF
    simp only [Nat.add_zero] at h0 ⊢
    rcases (by omega : j = 0 ∨ j = 1 ∨ j = 2 ∨ j = 3 ∨ j = 4 ∨ j = 5 ∨ j = 6 ∨ j = 7) with rfl | rfl | rfl | rfl | rfl | rfl | rfl | rfl <;> simp <;> omega
theorem bytesOf_bitsB (s : List UInt8) : bytesOf (bitsB s) = s := by
  apply List.ext_getElem
  · rw [length_bytesOf, length_bitsB]; omega
  · intro k h1 h2
    have e : (bytesOf (bitsB s))[k] = UInt8.ofNat (byteF (nth (bitsB s)) k) := by simp [bytesOf]
    rw [e]
    have hb : ∀ j, j < 8 → nth (bitsB s) (8 * k + j) = (s[k]).toNat / 2 ^ (7 - j) % 2 := by
      intro j hj
      have e1 : (8 * k + j) / 8 = k := by omega
      have e2 : (8 * k + j) % 8 = j := by omega
      rw [nth_bitsB s (8 * k + j) (by omega)]
      simp only [e1, e2]
    have hlt : (s[k]).toNat < 256 := UInt8.toNat_lt _
    have : byteF (nth (bitsB s)) k = (s[k]).toNat := by
      unfold byteF
      rw [hb 0 (by omega), hb 1 (by omega), hb 2 (by omega), hb 3 (by omega), hb 4 (by omega), hb 5 (by omega), hb 6 (by omega), hb 7 (by omega)]
      simp
      omega
    rw [this]
    simp
end Go.Proofs.YtphndajaehofoaaDoor.Bt
namespace Go.Proofs.YtphndajaehofoaaDoor.Mm
open Go.RowKit

/-- block g is just these cells, none of them frozen -/
def Blk (w : World) (g : Nat) (t : TypeId) (cs : Array Value) : Prop := w.heap[g]? = some (.cells cs t (0, 0))
section
variable {w w' : World} {g : Nat} {t : TypeId} {cs : Array Value}
theorem Blk.lt (h : Blk w g t cs) : g < w.heap.size := by
  unfold Blk at h
  exact (Array.getElem?_eq_some_iff.1 h).1
theorem Blk.cell (h : Blk w g t cs) (i : Nat) : w.cell? ⟨g, i, none⟩ = cs[i]? := cell_of_row w g i cs t (0, 0) h
theorem Blk.frozen (h : Blk w g t cs) (i : Nat) : w.frozen? ⟨g, i, none⟩ = false := by
  unfold Blk at h
  simp [World.frozen?, h]
theorem Blk.fresh (w : World) (t : TypeId) (cs : Array Value) : Blk (w.alloc (.cells cs t)) w.heap.size t cs := heap_alloc_new w _
theorem Blk.drew (h : Blk w g t cs) : Blk w.drew g t cs := h
theorem Blk.drewN (h : Blk w g t cs) (n : Nat) : Blk (w.drewN n) g t cs := h
theorem Blk.alloc (h : Blk w g t cs) (o : Obj) : Blk (w.alloc o) g t cs := (Below.heap_alloc w o g h.lt).trans h
theorem Blk.put (h : Blk w g t cs) (i : Nat) (u : Value) : Blk (w.setCell ⟨g, i, none⟩ u) g t (cs.setIfInBounds i u) := by
  unfold Blk at h ⊢
  simp [World.setCell, Array.getElem?_modify, h]
theorem Blk.far (h : Blk w g t cs) {p : Addr} (hp : g ≠ p.block) (u : Value) : Blk (w.setCell p u) g t cs := (Below.heap_setCell w p u g hp).trans h
theorem Blk.below {B : Nat} (h : Blk w g t cs) (hb : Below B w w') (hg : g < B) : Blk w' g t cs := (hb.block g hg).trans h
theorem Blk.grown {row : Option Nat} (h : Blk w g t cs) (hb : w.grownBy w' row) (hg : some g ≠ row) : Blk w' g t cs := (hb.block g h.lt hg).trans h
end

/-- of w, all but block g is as it was -/
def Only (g : Nat) (w w' : World) : Prop := w.grownBy w' (some g)
section
variable {a w : World} {g : Nat}
theorem Only.refl (g : Nat) (w : World) : Only g w w := World.grownBy.refl w _
theorem Only.drew (h : Only g a w) : Only g a w.drew := ⟨h.os, h.tape, h.output, h.size, h.block⟩
theorem Only.drewN (h : Only g a w) (n : Nat) : Only g a (w.drewN n) := ⟨h.os, h.tape, h.output, h.size, h.block⟩
theorem Only.alloc (h : Only g a w) (o : Obj) : Only g a (w.alloc o) :=
  ⟨h.os, h.tape, h.output, Nat.le_trans h.size (by simp), fun i hi hne => (Below.heap_alloc w o i (Nat.lt_of_lt_of_le hi h.size)).trans (h.block i hi hne)⟩
theorem Only.put (h : Only g a w) (i : Nat) (u : Value) : Only g a (w.setCell ⟨g, i, none⟩ u) :=
  ⟨h.os, h.tape, h.output, by simpa [World.setCell] using h.size, fun k hk hne => (Below.heap_setCell w _ u k (by
    rintro rfl
    exact hne rfl)).trans (h.block k hk hne)⟩
theorem Only.trans {b c : World} (h : Only g a b) (k : Only g b c) : Only g a c :=
  ⟨k.os.trans h.os, k.tape.trans h.tape, k.output.trans h.output, Nat.le_trans h.size k.size, fun i hi hne => (k.block i (Nat.lt_of_lt_of_le hi h.size) hne).trans (h.block i hi hne)⟩
theorem Only.below (h : Only g a w) {B : Nat} (hB : B ≤ g) (hs : B ≤ a.heap.size) : Below B a w :=
  ⟨h.os, h.tape, h.output, h.size, fun k hk => h.block k (Nat.lt_of_lt_of_le hk hs) (by intro e; injection e; omega)⟩
theorem Only.of_below {w' : World} (h : Below w.heap.size w w') : Only g w w' := ⟨h.os, h.tape, h.output, h.size, fun i hi _ => h.block i hi⟩
end

/-- a slice value that holds these cells, below block B -/
def Rd (w : World) (B : Nat) (A : Option Addr) (xs : List Value) : Prop :=
  0 < xs.length → ∃ ad : Addr, A = some ad ∧ ad.block < B ∧ ∀ j u, xs[j]? = some u → w.cell? (ad.add j) = some u
theorem block_add (a : Addr) (n : Nat) : (a.add n).block = a.block := by unfold Addr.add; split <;> rfl
theorem add_add (a : Addr) (i j : Nat) : (a.add i).add j = a.add (i + j) := by
  unfold Addr.add
  by_cases hi : i = 0 <;> by_cases hj : j = 0 <;> simp [hi, hj, Nat.add_assoc]
theorem add_succ (a : Addr) (i : Nat) : a.add (i + 1) = ⟨(a.add i).block, (a.add i).off + 1, none⟩ := by
  rw [← add_add]; rfl
section
variable {w w' : World} {B B' : Nat} {A : Option Addr} {xs : List Value}
theorem Rd.keep (h : Rd w B A xs) (hk : ∀ p : Addr, p.block < B → w'.cell? p = w.cell? p) : Rd w' B A xs := fun hn => by
  obtain ⟨ad, e, hb, hc⟩ := h hn
  exact ⟨ad, e, hb, fun j u hu => (hk _ (by rw [block_add]; exact hb)).trans (hc j u hu)⟩
theorem Rd.below (h : Rd w B A xs) (hb : Below B w w') : Rd w' B A xs := h.keep fun _ hp => hb.cell hp
theorem Rd.more (h : Rd w B A xs) (hB : B ≤ B') : Rd w B' A xs := fun hn => by
  obtain ⟨ad, e, hb, hc⟩ := h hn
  exact ⟨ad, e, by omega, hc⟩
theorem Rd.none (w : World) (B : Nat) (A : Option Addr) : Rd w B A [] := fun h => by simp at h
theorem Rd.of_own {base : Nat} {e : TypeId} {size n c : Nat} (h : w.ownsRow base e size (.slice A n c) n xs) : Rd w w.heap.size A xs := fun hn => by
  have h1 := h.1
  have h2 : 0 < n := by
    rcases Nat.eq_zero_or_pos n with h0 | h0
    · subst h0; simp at h1; subst h1; simp at hn
    · exact h0
  obtain ⟨g, cap, hv, _, hlt⟩ := h.form h2
  have hA : A = some ⟨g, 0, Option.none⟩ := by injection hv
  subst hA
  exact ⟨_, rfl, hlt, h.cells (g := g) rfl⟩
theorem Rd.of_blk {g : Nat} {t : TypeId} {cs : Array Value} (h : Blk w g t cs) (n : Nat) : Rd w w.heap.size (some ⟨g, 0, Option.none⟩) (cs.toList.take n) := fun _ => by
  refine ⟨_, rfl, h.lt, fun j u hu => ?_⟩
  have e : (Addr.mk g 0 Option.none).add j = ⟨g, j, Option.none⟩ := by
    unfold Addr.add
    split
    · rename_i hj; subst hj; rfl
    · simp
  rw [e, h.cell]
  have := List.getElem?_eq_some_iff.1 hu
  obtain ⟨hj, hu'⟩ := this
  rw [List.getElem_take] at hu'
  rw [← hu', ← Array.getElem?_toList]
  exact List.getElem?_eq_getElem _
end

/-- bytes, one a cell -/
def byteCells (m : Nat) (f : Nat → Nat) : Array Value := ((List.range m).map fun k => Value.int .u8 (f k : Nat)).toArray
theorem size_byteCells (m : Nat) (f : Nat → Nat) : (byteCells m f).size = m := by simp [byteCells]
theorem get_byteCells (m : Nat) (f : Nat → Nat) (k : Nat) (h : k < m) : (byteCells m f)[k]? = some (.int .u8 (f k : Nat)) := by simp [byteCells, h]
theorem put_byteCells (m : Nat) (f g : Nat → Nat) (k : Nat) (u : Nat) (hu : u = g k) (hf : ∀ i, i ≠ k → g i = f i) : (byteCells m f).setIfInBounds k (.int .u8 (u : Nat)) = byteCells m g := by
  subst hu
  apply Array.ext
  · simp [byteCells]
  · intro i h1 h2
    rw [Array.getElem_setIfInBounds (by simpa using h1)]
    split
    · rename_i e; subst e; simp [byteCells]
    · rename_i e
      simp [byteCells, hf i (fun h => e h.symm)]
/-- 'string(b)' of bytes that the call itself has made -/
theorem run_back {P : Program} {w : World} {g m : Nat} {t src dst : TypeId} {f : Nat → Nat} (h : Blk w g t (byteCells m f)) (hf : ∀ k, f k < 256) (hs : P.underlying src = some (.slice t)) (he : P.underlying t = some (.int .u8)) (hd : P.underlying dst = some .string) (c : Nat) :
    (convert src dst (.slice (some ⟨g, 0, none⟩) m c)).run P w = .ok (.string ⟨((List.range m).map fun k => UInt8.ofNat (f k)).toArray⟩) w := by
  have e := run_convert_bytes_back (P := P) w src dst t ⟨g, 0, none⟩ c ((List.range m).map fun k => UInt8.ofNat (f k)) hs he hd (fun j hj => by
    have e1 : (Addr.mk g 0 none).add j = ⟨g, j, none⟩ := by
      unfold Addr.add
      split
      · rename_i hj; subst hj; rfl
      · simp
    have hj' : j < m := by simpa using hj
    rw [e1, h.cell, get_byteCells _ _ _ hj']
    simp [Nat.mod_eq_of_lt (hf j)])
  have el : ((List.range m).map fun k => UInt8.ofNat (f k)).length = m := by simp
  rw [el] at e
  exact e

/-- numbers, one a cell -/
def numCells (kd : IntKind) (m : Nat) (f : Nat → Nat) : Array Value := ((List.range m).map fun k => Value.int kd (f k : Nat)).toArray
theorem size_numCells (kd : IntKind) (m : Nat) (f : Nat → Nat) : (numCells kd m f).size = m := by simp [numCells]
theorem get_numCells (kd : IntKind) (m : Nat) (f : Nat → Nat) (k : Nat) (h : k < m) : (numCells kd m f)[k]? = some (.int kd (f k : Nat)) := by simp [numCells, h]
theorem put_numCells (kd : IntKind) (m : Nat) (f g : Nat → Nat) (k : Nat) (u : Nat) (hu : u = g k) (hf : ∀ i, i ≠ k → g i = f i) : (numCells kd m f).setIfInBounds k (.int kd (u : Nat)) = numCells kd m g := by
  subst hu
  apply Array.ext
  · simp [numCells]
  · intro i h1 h2
    rw [Array.getElem_setIfInBounds (by simpa using h1)]
    split
    · rename_i e; subst e; simp [numCells]
    · rename_i e
      simp [numCells, hf i (fun h => e h.symm)]
theorem numCells_congr {kd : IntKind} {m : Nat} {f g : Nat → Nat} (h : ∀ i, i < m → f i = g i) : numCells kd m f = numCells kd m g := by
  unfold numCells
  congr 1
  apply List.map_congr_left
  intro k hk
  rw [h k (by simpa using hk)]
theorem made_nums (kd : IntKind) (m : Nat) : madeCells (Value.int kd 0).cells (m * 1) = numCells kd m (fun _ => 0) := by
  apply Array.ext
  · simp [madeCells, numCells, Value.cells]
  · intro i h1 h2
    simp [madeCells, numCells, Value.cells, Nat.mod_one]
/-- as a list -/
def nums (kd : IntKind) (l : List Nat) : List Value := l.map fun x => Value.int kd (x : Nat)
theorem numCells_list (kd : IntKind) (l : List Nat) : (numCells kd l.length (fun i => l.getD i 0)).toList = nums kd l := by
  apply List.ext_getElem
  · simp [numCells, nums]
  · intro i h1 h2
    simp [numCells, nums] at h1 h2 ⊢
    simp [h2]

/-! ### rows that the call owns -/
section
variable {w w' : World} {base n n' : Nat} {e e' : TypeId} {size size' : Nat} {v v' : Value} {xs xs' : List Value}
theorem own_slice (h : w.ownsRow base e size v n xs) : ∃ A c, v = .slice A n c := by
  rcases h.2 with ⟨h1, h0⟩ | ⟨g, cap, cur, hv, _⟩
  · subst h0; exact ⟨_, _, h1⟩
  · exact ⟨_, _, hv⟩
theorem own_below (h : w.ownsRow base e size v n xs) (hb : Below w.heap.size w w') : w'.ownsRow base e size v n xs := by
  have hg : w.grownBy w' none := ⟨hb.os, hb.tape, hb.output, hb.size, fun i hi _ => hb.block i hi⟩
  refine h.kept hg ?_
  cases hv : v.ownBlock with
  | none => exact .inl rfl
  | some k => exact .inr (by intro e; cases e)
theorem own_ne (h : w.ownsRow base e size v n xs) (h' : w.ownsRow base e' size' v' n' xs') (hne : e ≠ e') : v.ownBlock = none ∨ v.ownBlock ≠ v'.ownBlock := by
  rcases h.2 with ⟨rfl, _⟩ | ⟨g, cap, cur, rfl, _, hh, _⟩
  · exact .inl rfl
  · rcases h'.2 with ⟨rfl, _⟩ | ⟨g', cap', cur', rfl, _, hh', _⟩
    · exact .inr (by simp [Value.ownBlock])
    · refine .inr ?_
      simp only [Value.ownBlock]
      intro eq
      injection eq with eq
      subst eq
      rw [hh] at hh'
      injection hh' with hh'
      injection hh' with _ ht
      exact hne ht
theorem own_drew (h : w.ownsRow base e size v n xs) : w.drew.ownsRow base e size v n xs := h
theorem own_drewN (h : w.ownsRow base e size v n xs) (k : Nat) : (w.drewN k).ownsRow base e size v n xs := h
/-- a cell of an owned row of one-cell elements -/
theorem own_cell {A : Option Addr} {c : Nat} (h : w.ownsRow base e 1 (.slice A n c) n xs) (hn : 0 < n) : ∃ g, A = some ⟨g, 0, none⟩ ∧ base ≤ g ∧ g < w.heap.size ∧ (∀ j, j < n → w.cell? ⟨g, j, none⟩ = xs[j]?) ∧ ∀ j, w.frozen? ⟨g, j, none⟩ = false := by
  obtain ⟨g, cap, hv, hb, hl⟩ := h.form hn
  injection hv with hA _ hc
  subst hA hc
  exact ⟨g, rfl, hb, hl, fun j hj => h.cellAt j (by omega), fun j => h.frozenAt j⟩
theorem below_grow (hb : Below w.heap.size w w') : w.grownBy w' none := ⟨hb.os, hb.tape, hb.output, hb.size, fun i hi _ => hb.block i hi⟩
/-- an append onto an owned row turns nothing that lay below its base -/
theorem below_own {w0 : World} (hb : Below base w0 w) (h : w.ownsRow base e size v n xs) (hB : base ≤ w.heap.size) (hg : w.grownBy w' v.ownBlock) : Below base w0 w' :=
  hb.grown hg hB (fun k hk => (h.lt k hk).1)
end
theorem one_nums (kd : IntKind) (l : List Nat) : ∀ u ∈ nums kd l, u.oneCell' = true := by
  intro u hu
  simp only [nums, List.mem_map] at hu
  obtain ⟨x, _, rfl⟩ := hu
  rfl
theorem length_nums (kd : IntKind) (l : List Nat) : (nums kd l).length = l.length := by simp [nums]
theorem nums_append (kd : IntKind) (l r : List Nat) : nums kd l ++ nums kd r = nums kd (l ++ r) := by simp [nums]
theorem get_nums (kd : IntKind) (l : List Nat) (i : Nat) (h : i < l.length) : (nums kd l)[i]? = some (.int kd (l.getD i 0 : Nat)) := by simp [nums, h]
theorem add_zero_block (g j : Nat) : (Addr.mk g 0 none).add j = ⟨g, j, none⟩ := by
  unfold Addr.add
  split
  · rename_i hj; subst hj; rfl
  · simp
theorem blk_nums {w : World} {g : Nat} {t : TypeId} {kd : IntKind} {l : List Nat} {n : Nat} (hn : n = l.length) {f : Nat → Nat} (hf : ∀ i, i < n → f i = l.getD i 0) (h : Blk w g t (numCells kd n f)) :
    ∀ j u, (nums kd l)[j]? = some u → w.cell? ((Addr.mk g 0 none).add j) = some u := by
  intro j u hu
  have hj : j < l.length := by
    have := (List.getElem?_eq_some_iff.1 hu).1
    simpa [nums] using this
  rw [add_zero_block, h.cell, get_numCells _ _ _ _ (by omega), hf j (by omega), ← hu, get_nums _ _ _ hj]
theorem rd_nums {w : World} {g : Nat} {t : TypeId} {kd : IntKind} {l : List Nat} {n : Nat} (hn : n = l.length) {f : Nat → Nat} (hf : ∀ i, i < n → f i = l.getD i 0) (h : Blk w g t (numCells kd n f)) : Rd w w.heap.size (some ⟨g, 0, none⟩) (nums kd l) :=
  fun _ => ⟨_, rfl, h.lt, blk_nums hn hf h⟩
theorem below_drewN {B : Nat} {a w : World} (h : Below B a w) (n : Nat) : Below B a (w.drewN n) := ⟨h.os, h.tape, h.output, h.size, h.block⟩
/-- one cell that lies in a new block -/
theorem cell_new (w : World) (t : TypeId) (u : Value) : ∀ j x, [u][j]? = some x → (w.alloc (.cells #[u] t)).cell? ((Addr.mk w.heap.size 0 none).add j) = some x := by
  intro j x hx
  rw [add_zero_block, (Blk.fresh w t #[u]).cell]
  rw [← hx]
  simp
/-- cells that lie in a new block -/
theorem cells_new (w : World) (t : TypeId) (cs : Array Value) (xs : List Value) (g : Nat) (hg : g = w.heap.size) (hx : cs.toList = xs) : ∀ j x, xs[j]? = some x → (w.alloc (.cells cs t)).cell? ((Addr.mk g 0 none).add j) = some x := by
  intro j x hx'
  subst hg hx
  rw [add_zero_block, (Blk.fresh w t cs).cell]
  rw [← hx', Array.getElem?_toList]
/-- bytes as cells -/
def byteVals (l : List UInt8) : List Value := l.map fun b => Value.int .u8 (b.toNat : Nat)
theorem own_back {P : Program} {w : World} {base : Nat} {e src dst : TypeId} {A : Option Addr} {n c : Nat} {l : List UInt8} (h : w.ownsRow base e 1 (.slice A n c) n (byteVals l)) (hs : P.underlying src = some (.slice e)) (he : P.underlying e = some (.int .u8)) (hd : P.underlying dst = some .string) :
    (convert src dst (.slice A n c)).run P w = .ok (.string ⟨l.toArray⟩) w := by
  have hl : l.length = n := by have := h.1; simp [byteVals] at this; omega
  rcases Nat.eq_zero_or_pos n with h0 | h0
  · subst h0
    have : l = [] := List.eq_nil_of_length_eq_zero hl
    subst this
    rw [run_convert_bytes_string w src dst e _ 0 c hs he hd]
    cases A <;> simp [Conv.bytesToString, loadCells] <;> rfl
  · obtain ⟨g, rfl, _, _, hc, _⟩ := own_cell h h0
    have e1 := run_convert_bytes_back (P := P) w src dst e ⟨g, 0, none⟩ c l hs he hd (fun j hj => by
      rw [add_zero_block, hc j (by omega)]
      simp [byteVals, hj])
    rw [hl] at e1
    exact e1
end Go.Proofs.YtphndajaehofoaaDoor.Mm
namespace Go.Proofs.YtphndajaehofoaaDoor.Fl
open Go.RowKit Go.Proofs.YtphndajaehofoaaDoor.Bt

theorem ret_int {k : IntKind} {a b : Int} (h : a = b) : Ending.returned (.int k a) = .returned (.int k b) := by rw [h]
theorem ret_bool {a b : Bool} (h : a = b) : Ending.returned (.bool a) = .returned (.bool b) := by rw [h]

theorem may_yes (n : Int) (w : World) (h1 : 1 ≤ n) (h2 : n ≤ 64) :
    Calls Tryd.prog 27 #[.int .i64 n] w fun e w' => e = .returned (.bool true) ∧ w = w' := by
  go_enter Tryd.func27, Tryd.ntmps27
  go_wp2
  go_ret
  exact ⟨rfl, rfl⟩
theorem may_no (n : Int) (w : World) (h : n < 1 ∨ 64 < n) :
    Calls Tryd.prog 27 #[.int .i64 n] w fun e w' => e = .returned (.bool false) ∧ w = w' := by
  rcases h with h | h
  · go_enter Tryd.func27, Tryd.ntmps27
    go_wp2
    go_ret
    exact ⟨rfl, rfl⟩
  · have h1 : 1 ≤ n := by omega
    have h2 : ¬ n ≤ 64 := by omega
    go_enter Tryd.func27, Tryd.ntmps27
    go_wp2
    go_ret
    exact ⟨ret_bool (by simp), rfl⟩

/-- all bytes are 0 -/
def zeros (l : List UInt8) : Bool := l.all fun c => c == 0
theorem zeros_snoc (l : List UInt8) (c : UInt8) : zeros (l ++ [c]) = (zeros l && c == 0) := by simp [zeros]
theorem take_snoc (s : ByteArray) (k : Nat) (h : k < s.size) : s.data.toList.take (k + 1) = s.data.toList.take k ++ [s[k]] := by
  rw [List.take_succ_eq_append_getElem (by simpa using h)]; rfl
theorem zeros_false (s : ByteArray) (k : Nat) (h : k < s.size) (hc : s[k] ≠ 0) : zeros s.data.toList = false := by
  have h1 : s[k] ∈ s.data.toList := by
    have : s[k] = s.data.toList[k]'(by simpa using h) := rfl
    rw [this]; exact List.getElem_mem _
  unfold zeros
  rw [Bool.eq_false_iff]
  intro hall
  rw [List.all_eq_true] at hall
  exact hc (by simpa using hall _ h1)

/-- so many bits of a text from a place on -/
def getB (s : ByteArray) (at_ n : Nat) : Nat := val (((bitsB s.data.toList).drop at_).take n)
theorem getB_lt (s : ByteArray) (at_ n : Nat) : getB s at_ n < 2 ^ n := by
  have h := val_lt (((bin_bitsB s.data.toList).drop at_).take n)
  refine Nat.lt_of_lt_of_le h (Nat.pow_le_pow_right (by omega) ?_)
  simp
  omega
theorem size_list (s : ByteArray) : s.data.toList.length = s.size := by rw [Array.length_toList]; rfl
theorem getB_succ (s : ByteArray) (at_ k : Nat) (h : at_ + k < 8 * s.size) :
    getB s at_ (k + 1) = 2 * getB s at_ k + (s[(at_ + k) / 8]'(by omega)).toNat / 2 ^ (7 - (at_ + k) % 8) % 2 := by
  unfold getB
  have hl : (at_ + k) / 8 < s.data.toList.length := by rw [size_list]; omega
  rw [take_succ_nth _ _ (by rw [List.length_drop, length_bitsB, size_list]; omega), val_snoc, nth_drop, nth_bitsB _ _ hl]
  rfl

theorem pow_le (k : Nat) (h : k ≤ 64) : 2 ^ k ≤ 18446744073709551616 := by
  have := Nat.pow_le_pow_right (n := 2) (by omega) h
  have e : 2 ^ 64 = 18446744073709551616 := by decide
  omega
theorem or_u64 (v b : Nat) (k : Nat) (hv : v < 2 ^ k) (hk : k < 64) (hb : b < 2) : bits .or .u64 (IntKind.u64.wrap ((v : Int) * 2)) (b : Int) = ((2 * v + b : Nat) : Int) := by
  have h1 := pow_le (k + 1) (by omega)
  rw [Nat.pow_succ] at h1
  rw [IntKind.wrap_u64]
  have e : ((v : Int) * 2) % 18446744073709551616 = ((2 * v : Nat) : Int) := by omega
  rw [e, u64_or_nat _ _ (by omega) (by omega)]
  have e2 : 2 * v ||| b = 2 * v + b := by
    have := Nat.two_pow_add_eq_or_of_lt (i := 1) (b := b) (by omega) v
    simpa using this.symm
  rw [e2]

theorem div_cast (c t : Nat) : (c : Int) / 2 ^ t = ((c / 2 ^ t : Nat) : Int) := by push_cast; rfl
theorem and_u8 (c t : Nat) (hc : c < 256) : bits .and .u8 ((c : Int) / 2 ^ t) 1 = ((c / 2 ^ t % 2 : Nat) : Int) := by
  have hle : c / 2 ^ t ≤ c := Nat.div_le_self _ _
  rw [div_cast]
  have e := u8_and_nat (c / 2 ^ t) 1 (by omega) (by omega)
  rw [nat_mask1] at e
  exact e
theorem and_u64 (c t : Nat) (hc : c < 18446744073709551616) : bits .and .u64 ((c : Int) / 2 ^ t) 1 = ((c / 2 ^ t % 2 : Nat) : Int) := by
  have hle : c / 2 ^ t ≤ c := Nat.div_le_self _ _
  rw [div_cast]
  have e := u64_and_nat (c / 2 ^ t) 1 (by omega) (by omega)
  rw [nat_mask1] at e
  exact e
theorem get_step (s : ByteArray) (a k : Nat) (h : a + k < 8 * s.size) (hk : k < 64) (hd : (a + k) / 8 < s.size) :
    Value.int IntKind.u64 (bits .or .u64 (IntKind.u64.wrap ((getB s a k : Nat) * 2)) (IntKind.u64.wrap (bits .and .u8 ((s[(a + k) / 8].toNat : Int) / 2 ^ (7 - (a + k) % 8)) 1))) =
      Value.int IntKind.u64 (getB s a (k + 1) : Nat) := by
  rw [getB_succ s a k h, and_u8 _ _ (UInt8.toNat_lt _)]
  have h2 : s[(a + k) / 8].toNat / 2 ^ (7 - (a + k) % 8) % 2 < 2 := Nat.mod_lt _ (by omega)
  generalize s[(a + k) / 8].toNat / 2 ^ (7 - (a + k) % 8) % 2 = b at h2
  have e : IntKind.u64.wrap (b : Int) = (b : Int) := by rw [IntKind.wrap_u64]; omega
  rw [e, or_u64 _ _ k (getB_lt s a k) hk h2]

set_option maxRecDepth 100000 in
set_option maxHeartbeats 400000 in
theorem getBits_any (s : ByteArray) (a n : Nat) (w : World) (hs : s.size ≤ maxLen) (hn : n ≤ 64) (ha : a + n ≤ 8 * s.size) (hb : a ≤ 100000000) :
    Calls Tryd.prog 31 #[.string s, .int .i64 a, .int .i64 n] w fun e w' => e = .returned (.int .u64 (getB s a n)) ∧ w = w' := by
  unfold maxLen at hs
  go_enter Tryd.func31, Tryd.ntmps31
  go_wp2
  go_loop [7, 11] (fun v i => ∃ k : Nat, k ≤ n ∧ i = .int .i64 k ∧ v = .int .u64 (getB s a k)) (fun _ i => n - (intOf i).toNat)
  case atStart => exact ⟨0, Nat.zero_le _, rfl, rfl⟩
  case round =>
    obtain ⟨k, hk, rfl, rfl⟩ := hrel
    have hv := getB_lt s a k
    by_cases hlt : k < n
    · have hd : (a + k) / 8 < s.size := by omega
      go_wp2
      go_round
      case rel =>
        exact ⟨k + 1, by omega, by go_num, get_step s a k (by omega) (by omega) hd⟩
      case measure => simp [intOf]; omega
    · go_wp2
      go_ret
      exact ⟨ret_int (by obtain rfl : k = n := by omega
                         rfl), rfl⟩
end Go.Proofs.YtphndajaehofoaaDoor.Fl
namespace Go.Proofs.YtphndajaehofoaaDoor.Fl
open Go.RowKit Go.Proofs.YtphndajaehofoaaDoor.Bt Go.Proofs.YtphndajaehofoaaDoor.Mm

theorem put_value (x V s t : Nat) (hV : V < 18446744073709551616) (ht : t ≤ 7) (hx : x < 256) (hm : x % 2 ^ (t + 1) = 0) :
    bits .or .u8 (x : Int) (bits .and .u64 ((V : Int) / 2 ^ s) 1 % 256 * 2 ^ t % 256) = ((x + V / 2 ^ s % 2 * 2 ^ t : Nat) : Int) := by
  rw [and_u64 V s hV]
  have hb : V / 2 ^ s % 2 < 2 := Nat.mod_lt _ (by omega)
  generalize V / 2 ^ s % 2 = b at hb
  have hp : 2 ^ t ≤ 2 ^ 7 := Nat.pow_le_pow_right (by omega) ht
  have hp' : 2 ^ t ≤ 128 := hp
  have hbt : b * 2 ^ t ≤ 128 := by
    rcases (by omega : b = 0 ∨ b = 1) with rfl | rfl <;> omega
  have e : ((b : Int) % 256 * 2 ^ t % 256) = ((b * 2 ^ t : Nat) : Int) := by
    have e1 : (b : Int) % 256 = (b : Int) := by omega
    rw [e1]
    have e2 : ((b : Int) * 2 ^ t) = ((b * 2 ^ t : Nat) : Int) := by push_cast; rfl
    rw [e2]
    omega
  rw [e, u8_or_nat _ _ hx (by omega), or_bit x b t hm hb]

/-- a bit more -/
theorem put_byte (l : List Nat) (a k W V m : Nat) (hl : Bin l) (hV : V < 18446744073709551616) (hb : nth l (a + k) = V / 2 ^ (W - 1 - k) % 2) :
    (byteCells m (byteF (upTo l (a + k)))).setIfInBounds ((a + k) / 8) (Value.int IntKind.u8
        (bits .or .u8 ((byteF (upTo l (a + k)) ((a + k) / 8) : Nat) : Int) (bits .and .u64 ((V : Int) / 2 ^ (W - 1 - k)) 1 % 256 * 2 ^ (7 - (a + k) % 8) % 256))) =
      byteCells m (byteF (upTo l (a + (k + 1)))) := by
  have hn := byteF_near l (a + k)
  rw [put_value _ V (W - 1 - k) (7 - (a + k) % 8) hV (by omega) (byteF_lt (fun i => upTo_lt hl _ i) _) (by
    rw [show 7 - (a + k) % 8 + 1 = 8 - (a + k) % 8 from by omega]; exact hn.2), ← hb]
  refine put_byteCells m _ _ _ _ ?_ ?_
  · rw [← Nat.add_assoc, hn.1]
  · intro i hi
    rw [← Nat.add_assoc, byteF_far l (a + k) i hi]

set_option maxRecDepth 100000 in
set_option maxHeartbeats 400000 in
theorem putBits_any (l : List Nat) (g m a W V : Nat) (w : World) (hl : Bin l) (hW : W ≤ 64) (hV : V < 18446744073709551616) (ha : a + W ≤ 8 * m) (hm : m ≤ 100000000)
    (hb : ∀ i, i < W → nth l (a + i) = V / 2 ^ (W - 1 - i) % 2) (hg : Blk w g 5 (byteCells m (byteF (upTo l a)))) :
    Calls Tryd.prog 28 #[.slice (some ⟨g, 0, none⟩) m m, .int .i64 a, .agg #[.int .i64 W, .int .u64 V]] w fun e w' => e = .returned (.tuple #[]) ∧
      Blk w' g 5 (byteCells m (byteF (upTo l (a + W)))) ∧ Only g w w' := by
  have hgl := hg.lt
  have HG := Lib.hid hg; clear hg
  have HB := Lib.hid hb; clear hb
  go_enter Tryd.func28, Tryd.ntmps28
  go_wp2
  go_loopw [10] (fun i wr => ∃ k : Nat, k ≤ W ∧ i = .int .i64 k ∧ Blk wr g 5 (byteCells m (byteF (upTo l (a + k)))) ∧ Blk wr w.heap.size 64 #[.int .i64 W, .int .u64 V] ∧ Only g w wr) (fun i _ => W - (intOf i).toNat)
  case atStart => exact ⟨0, Nat.zero_le _, rfl, HG.out.alloc _, Blk.fresh _ _ _, (Only.refl _ _).alloc _⟩
  case round =>
    obtain ⟨k, hk, rfl, hg, hx, ho⟩ := hrel
    by_cases hlt : k < W
    · have hd : (a + k) / 8 < m := by omega
      have c1 := hg.cell ((a + k) / 8)
      rw [get_byteCells _ _ _ hd] at c1
      have c2 := hg.frozen ((a + k) / 8)
      have x0 := hx.cell 0
      have x1 := hx.cell 1
      simp at x0 x1
      have HG2 := Lib.hid hg; clear hg
      have HX := Lib.hid hx; clear hx
      have HO := Lib.hid ho; clear ho
      go_wp2
      go_region
      go_wp2
      go_roundw
      case rel =>
        refine ⟨k + 1, by omega, by go_num, ?_, ?_, ?_⟩
        · have h1 := HG2.out.put ((a + k) / 8) (Value.int IntKind.u8 (bits .or .u8 ((byteF (upTo l (a + k)) ((a + k) / 8) : Nat) : Int) (bits .and .u64 ((V : Int) / 2 ^ (W - 1 - k)) 1 % 256 * 2 ^ (7 - (a + k) % 8) % 256)))
          rw [put_byte l a k W V m hl hV (HB.out k hlt)] at h1
          exact h1.drew
        · exact (HX.out.far (p := ⟨g, (a + k) / 8, none⟩) (by show w.heap.size ≠ g; omega) _).drew
        · exact (HO.out.put _ _).drew
      case measure => simp [intOf]; omega
    · go_wp2
      go_end0
      obtain rfl : k = W := by omega
      exact ⟨rfl, hg, ho⟩
end Go.Proofs.YtphndajaehofoaaDoor.Fl
namespace Go.Proofs.YtphndajaehofoaaDoor.Fl
open Go.RowKit Go.Proofs.YtphndajaehofoaaDoor.Bt Go.Proofs.YtphndajaehofoaaDoor.Mm

def partCells (ps : List (Int × Nat)) : List Value := ps.flatMap fun p => [.int .i64 p.1, .int .u64 (p.2 : Nat)]
def okP (p : Int × Nat) : Bool := decide (1 ≤ p.1 ∧ p.1 ≤ 64 ∧ p.2 < 2 ^ p.1.toNat)
def allBits (ps : List (Int × Nat)) : List Nat := ps.flatMap fun p => bitsN p.2 p.1.toNat
theorem length_partCells (ps : List (Int × Nat)) : (partCells ps).length = 2 * ps.length := by
  induction ps with
  | nil => rfl
  | cons p ps ih => simp only [partCells, List.flatMap_cons, List.length_append, List.length_cons, List.length_nil] at ih ⊢; omega
theorem get_partCells : ∀ (ps : List (Int × Nat)) (k : Nat) (h : k < ps.length), (partCells ps)[k * 2]? = some (.int .i64 (ps[k]).1) ∧ (partCells ps)[k * 2 + 1]? = some (.int .u64 ((ps[k]).2 : Nat))
  | [], k, h => by simp at h
  | p :: ps, 0, h => by simp [partCells]
  | p :: ps, k + 1, h => by
    have := get_partCells ps k (by simpa using h)
    have e1 : (k + 1) * 2 = k * 2 + 1 + 1 := by omega
    rw [e1]
    simpa [partCells] using this
theorem allBits_snoc (ps : List (Int × Nat)) (p : Int × Nat) : allBits (ps ++ [p]) = allBits ps ++ bitsN p.2 p.1.toNat := by simp [allBits]
theorem take_snocP (ps : List (Int × Nat)) (k : Nat) (h : k < ps.length) : ps.take (k + 1) = ps.take k ++ [ps[k]] := List.take_succ_eq_append_getElem h
theorem len_take_le (ps : List (Int × Nat)) (k : Nat) (h : (ps.take k).all okP = true) : (allBits (ps.take k)).length ≤ 64 * k := by
  induction k with
  | zero => simp [allBits]
  | succ k ih =>
    rcases Nat.lt_or_ge k ps.length with hk | hk
    · rw [take_snocP ps k hk] at h ⊢
      rw [List.all_append, Bool.and_eq_true] at h
      have h2 : okP ps[k] = true := by simpa using h.2
      have := ih h.1
      rw [allBits_snoc, List.length_append, length_bitsN]
      have h3 := of_decide_eq_true h2
      omega
    · rw [List.take_of_length_le (by omega)] at h ⊢
      have := ih (by rw [List.take_of_length_le (by omega)]; exact h)
      rw [List.take_of_length_le (by omega)] at this
      omega
theorem bin_allBits (ps : List (Int × Nat)) : Bin (allBits ps) := by
  induction ps with
  | nil => exact Bin.nil
  | cons p ps ih => exact (bin_bitsN _ _).append ih


/-- what Pack answers -/
def packR (ps : List (Int × Nat)) : List UInt8 × Nat := if ps.all okP = true then (if (allBits ps).length % 8 = 0 then (bytesOf (allBits ps), 0) else ([], 3)) else ([], 4)
theorem packR_bad (ps : List (Int × Nat)) (k : Nat) (h : k < ps.length) (hb : okP ps[k] = false) : packR ps = ([], 4) := by
  unfold packR
  rw [if_neg]
  intro hall
  rw [List.all_eq_true] at hall
  rw [hall _ (List.getElem_mem h)] at hb
  cases hb
theorem all_take_snoc (ps : List (Int × Nat)) (k : Nat) (h : k < ps.length) (ha : (ps.take k).all okP = true) (hb : okP ps[k] = true) : (ps.take (k + 1)).all okP = true := by
  rw [take_snocP ps k h, List.all_append, ha]
  simp [hb]
theorem allBits_append (a b : List (Int × Nat)) : allBits (a ++ b) = allBits a ++ allBits b := by simp [allBits]
theorem allBits_cut (ps : List (Int × Nat)) (k : Nat) (h : k < ps.length) : allBits ps = allBits (ps.take k) ++ (bitsN ps[k].2 ps[k].1.toNat ++ allBits (ps.drop (k + 1))) := by
  have e : ps = ps.take k ++ ([ps[k]] ++ ps.drop (k + 1)) := by
    rw [← List.append_assoc, ← take_snocP ps k h, List.take_append_drop]
  conv => lhs; rw [e]
  rw [allBits_append, allBits_append]
  simp [allBits]
theorem allBits_at (ps : List (Int × Nat)) (k : Nat) (h : k < ps.length) (i : Nat) (hi : i < ps[k].1.toNat) :
    nth (allBits ps) ((allBits (ps.take k)).length + i) = ps[k].2 / 2 ^ (ps[k].1.toNat - 1 - i) % 2 := by
  rw [allBits_cut ps k h, nth_append_right, nth_append_left _ _ _ (by simpa using hi), nth_bitsN _ _ _ hi]
theorem len_take_mono (ps : List (Int × Nat)) (k : Nat) (h : k < ps.length) : (allBits (ps.take k)).length + ps[k].1.toNat ≤ (allBits ps).length := by
  rw [allBits_cut ps k h]
  simp only [List.length_append, length_bitsN]
  omega
theorem info_u8 : (Tryd.prog.info? 5).map (fun i => (i.zero, i.size, i.bytes)) = some (some (.int .u8 0), 1, 1) := by kernel_rfl
theorem made_bytes (m : Nat) (l : List Nat) : madeCells (Value.int .u8 0).cells (m * 1) = byteCells m (byteF (upTo l 0)) := by
  have e : byteF (upTo l 0) = fun _ => 0 := funext (byteF_zero l)
  rw [e]
  apply Array.ext
  · simp [madeCells, byteCells, Value.cells]
  · intro i h1 h2
    simp [madeCells, byteCells, Value.cells, Nat.mod_one]
theorem bytes_full (l : List Nat) (m : Nat) (h : m = l.length / 8) : ((List.range m).map fun k => UInt8.ofNat (byteF (upTo l l.length) k)) = bytesOf l := by
  subst h
  unfold bytesOf
  apply List.map_congr_left
  intro k _
  rw [byteF_full]
theorem ret_tup {a b : Array Value} (h : a = b) : Ending.returned (.tuple a) = .returned (.tuple b) := by rw [h]
theorem shr_zero (V W : Nat) : ((V : Int) / 2 ^ W != 0) = decide (¬ V < 2 ^ W) := by
  rw [div_cast, Bool.eq_iff_iff]
  simp only [bne_iff_ne, ne_eq, decide_eq_true_eq]
  have := Nat.two_pow_pos W
  rw [Nat.not_lt]
  constructor
  · intro h
    have h2 : V / 2 ^ W ≠ 0 := by omega
    rcases Nat.lt_or_ge V (2 ^ W) with h3 | h3
    · exact absurd (Nat.div_eq_of_lt h3) h2
    · exact h3
  · intro h
    have := Nat.div_pos h this
    omega

set_option maxRecDepth 100000 in
set_option maxHeartbeats 1000000 in
theorem pack_any (ps : List (Int × Nat)) (A : Option Addr) (c : Nat) (w : World) (hn : ps.length ≤ 100000) (hA : Rd w w.heap.size A (partCells ps)) (hv : ∀ p ∈ ps, p.2 < 18446744073709551616) :
    Calls Tryd.prog 23 #[.slice A ps.length c] w fun e w' => e = .returned (.tuple #[.string ⟨(packR ps).1.toArray⟩, .int .i64 ((packR ps).2 : Nat)]) ∧ Below w.heap.size w w' := by
  have HA := Lib.hid hA; clear hA
  have HV := Lib.hid hv; clear hv
  go_enter Tryd.func23, Tryd.ntmps23
  go_wp2
  go_loopw [4, 13] (fun t i wr => ∃ k : Nat, k ≤ ps.length ∧ i = .int .i64 k ∧ t = .int .i64 ((allBits (ps.take k)).length : Nat) ∧ (ps.take k).all okP = true ∧ Below w.heap.size w wr) (fun _ i _ => ps.length - (intOf i).toNat)
  case atStart => exact ⟨0, Nat.zero_le _, rfl, rfl, rfl, Below.refl _ _⟩
  case round =>
    obtain ⟨k, hk, rfl, rfl, hall, hb⟩ := hrel
    have hle := len_take_le ps k hall
    have HL := Lib.hid hall; clear hall
    by_cases hlt : k < ps.length
    · have hc := get_partCells ps k hlt
      obtain ⟨ad, rfl, hbl, hcell⟩ := (HA.out.below hb) (by rw [length_partCells]; omega)
      have c0 := hcell _ _ hc.1
      have c1 := hcell _ _ hc.2
      rw [add_succ] at c1
      clear hcell hc
      have hsz := hb.size
      have HBw := Lib.hid hb; clear hb
      have hv2 := HV.out _ (List.getElem_mem hlt)
      generalize hp : ps[k] = p at c0 c1 hv2
      obtain ⟨W, V⟩ := p
      have HP := Lib.hid hp; clear hp
      simp only at c0 c1 hv2
      by_cases h1 : 1 ≤ W ∧ W ≤ 64
      · obtain ⟨ha1, ha2⟩ := h1
        obtain ⟨Wn, rfl⟩ := Int.eq_ofNat_of_zero_le (show 0 ≤ W by omega)
        have hs := shr_zero V Wn
        by_cases h2 : V < 2 ^ Wn
        · have HO := Lib.hid (show okP ((Wn : Int), V) = true from decide_eq_true ⟨ha1, ha2, by simpa using h2⟩)
          have hs' : ((V : Int) / 2 ^ Wn != 0) = false := by rw [hs]; simpa using h2
          clear hs h2
          go_wp2_with (go_at_call 27; refine (may_yes _ _ (by omega) (by omega)).mono ?_; rintro e w' ⟨rfl, rfl⟩)
          go_roundw
          case rel =>
            refine ⟨k + 1, by omega, by go_num, ?_, ?_, ?_⟩
            · rw [take_snocP ps k hlt, allBits_snoc, HP.out]; simp
            · exact all_take_snoc ps k hlt HL.out (by rw [HP.out]; exact HO.out)
            · exact HBw.out.alloc hsz _
          case measure => simp [intOf]; omega
        · have HO := Lib.hid (show okP ((Wn : Int), V) = false from decide_eq_false (by simp only [Int.toNat_natCast]; omega))
          have hs' : ((V : Int) / 2 ^ Wn != 0) = true := by rw [hs]; simpa using h2
          clear hs h2
          go_wp2_with (go_at_call 27; refine (may_yes _ _ (by omega) (by omega)).mono ?_; rintro e w' ⟨rfl, rfl⟩)
          go_ret2
          exact ⟨ret_tup (by rw [packR_bad ps k hlt (by rw [HP.out]; exact HO.out)]; rfl), HBw.out.alloc hsz _⟩
      · have HO := Lib.hid (show okP (W, V) = false from decide_eq_false (by simp only; omega))
        have h1' : W < 1 ∨ 64 < W := by omega
        clear h1
        go_wp2_with (go_at_call 27; refine (may_no _ _ h1').mono ?_; rintro e w' ⟨rfl, rfl⟩)
        go_ret2
        exact ⟨ret_tup (by rw [packR_bad ps k hlt (by rw [HP.out]; exact HO.out)]; rfl), HBw.out.alloc hsz _⟩
    · obtain rfl : k = ps.length := by omega
      rw [List.take_length] at hle HL
      simp only [List.take_length]
      have hsz := hb.size
      have HBw := Lib.hid hb; clear hb
      obtain ⟨T, hT⟩ : ∃ T, T = (allBits ps).length := ⟨_, rfl⟩
      rw [← hT] at hle ⊢
      have HT := Lib.hid hT; clear hT
      by_cases h8 : T % 8 = 0
      · have ht : ((T : Int) % 8 != 0) = false := by simp; omega
        have HR := Lib.hid (show packR ps = (bytesOf (allBits ps), 0) by unfold packR; rw [if_pos HL.out, if_pos (by rw [← HT.out]; exact h8)])
        obtain ⟨i0, hi, hz0, hz1, hz2⟩ := info_parts info_u8
        have hmk : (Instr.makeSlice 46 (.int .i64 ((T : Int) / 8)) (.int .i64 ((T : Int) / 8))).run Tryd.prog wr =
            .ok (.slice (some ⟨wr.heap.size, 0, none⟩) (T / 8) (T / 8)) (wr.alloc (.cells (byteCells (T / 8) (byteF (upTo (allBits ps) 0))) 5)) := by
          have h := run_make (P := Tryd.prog) wr 46 5 i0 (.int .u8 0) Tryd.underlying46 hi hz0 .i64 .i64 ((T : Int) / 8) ((T : Int) / 8) (by omega) (Int.le_refl _) (by rw [hz2]; omega) (by omega)
          rw [show ((T : Int) / 8).toNat = T / 8 by omega, hz1, made_bytes] at h
          exact h
        obtain ⟨wo, rfl⟩ : ∃ wo : World, wo = wr := ⟨_, rfl⟩
        obtain ⟨m, hm⟩ : ∃ m, m = T / 8 := ⟨_, rfl⟩
        rw [← hm] at hmk
        have hm8 : T ≤ 8 * m := by omega
        have hm9 : m ≤ T := by omega
        have HM := Lib.hid hm
        clear h8 hm
        go_wp2
        go_loopw [8, 42] (fun t i wr => ∃ k : Nat, k ≤ ps.length ∧ i = .int .i64 k ∧ t = .int .i64 ((allBits (ps.take k)).length : Nat) ∧ Blk wr wo.heap.size 5 (byteCells m (byteF (upTo (allBits ps) (allBits (ps.take k)).length))) ∧ Below w.heap.size w wr) (fun _ i _ => ps.length - (intOf i).toNat)
        case atStart => exact ⟨0, Nat.zero_le _, rfl, rfl, Blk.fresh _ _ _, HBw.out.alloc hsz _⟩
        case round =>
          obtain ⟨k, hk, rfl, rfl, hg, hb⟩ := hrel
          by_cases hlt : k < ps.length
          · have hc := get_partCells ps k hlt
            obtain ⟨ad, rfl, hbl, hcell⟩ := (HA.out.below hb) (by rw [length_partCells]; omega)
            have c0 := hcell _ _ hc.1
            have c1 := hcell _ _ hc.2
            rw [add_succ] at c1
            clear hcell hc
            have hsz2 := hb.size
            have hgl := hg.lt
            have HBr := Lib.hid hb; clear hb
            have HG := Lib.hid hg; clear hg
            have hv2 := HV.out _ (List.getElem_mem hlt)
            have hok := of_decide_eq_true (List.all_eq_true.1 HL.out _ (List.getElem_mem hlt))
            have hle2 := len_take_mono ps k hlt
            rw [← HT.out] at hle2
            have hbit := allBits_at ps k hlt
            have hlen : (allBits (ps.take (k + 1))).length = (allBits (ps.take k)).length + ps[k].1.toNat := by rw [take_snocP ps k hlt, allBits_snoc, List.length_append, length_bitsN]
            generalize hp : ps[k] = p at c0 c1 hv2 hok hle2 hbit hlen
            obtain ⟨W, V⟩ := p
            clear hp
            simp only at c0 c1 hv2 hok hle2 hbit hlen
            obtain ⟨ha1, ha2, ha3⟩ := hok
            obtain ⟨Wn, rfl⟩ := Int.eq_ofNat_of_zero_le (show 0 ≤ W by omega)
            simp only [Int.toNat_natCast] at ha3 hle2 hbit hlen
            have Hbit := Lib.hid hbit; clear hbit
            have Hlen := Lib.hid hlen; clear hlen
            go_wp2_with fail
            refine (putBits_any (allBits ps) wo.heap.size m _ Wn V _ (bin_allBits ps) (by omega) hv2 (by omega) (by omega) Hbit.out (HG.out.alloc _)).mono ?_
            rintro e w1 ⟨rfl, hg1, ho1⟩
            have hbx := (Blk.fresh wr 64 #[.int .i64 (Wn : Int), .int .u64 (V : Int)]).grown ho1 (by intro e; injection e; omega)
            have x0 := hbx.cell 0
            simp at x0
            have hb1 := HBr.out.alloc hsz2 (.cells #[.int .i64 (Wn : Int), .int .u64 (V : Int)] 64)
            have hb2 := hb1.trans (ho1.below (B := w.heap.size) (by omega) (by simp; omega))
            have HB2 := Lib.hid hb2; clear hb2 hb1
            have HG1 := Lib.hid hg1; clear hg1
            have HO1 := Lib.hid ho1; clear ho1
            clear hbx
            go_wp2
            go_roundw
            case rel =>
              refine ⟨k + 1, by omega, by go_num, ?_, ?_, HB2.out⟩
              · rw [Hlen.out]; go_num
              · rw [Hlen.out]; exact HG1.out
            case measure => simp [intOf]; omega
          · obtain rfl : k = ps.length := by omega
            simp only [List.take_length] at hg ⊢
            have hcv := run_back (P := Tryd.prog) (src := 46) (dst := 9) hg (fun i => byteF_lt (fun i => upTo_lt (bin_allBits ps) _ i) i) Tryd.underlying46 Tryd.underlying5 Tryd.underlying9 m
            have HG := Lib.hid hg; clear hg
            have HBr := Lib.hid hb; clear hb
            go_wp2
            go_ret2
            exact ⟨ret_tup (by rw [HR.out, ← bytes_full (allBits ps) m (by rw [HM.out, HT.out])]; rfl), HBr.out⟩
      · have ht : ((T : Int) % 8 != 0) = true := by simp; omega
        have HR := Lib.hid (show packR ps = ([], 3) by unfold packR; rw [if_pos HL.out, if_neg (by rw [← HT.out]; exact h8)])
        clear h8
        go_wp2
        go_ret2
        exact ⟨ret_tup (by rw [HR.out]; rfl), HBw.out⟩
end Go.Proofs.YtphndajaehofoaaDoor.Fl
namespace Go.Proofs.YtphndajaehofoaaDoor.Fl
open Go.RowKit Go.Proofs.YtphndajaehofoaaDoor.Bt Go.Proofs.YtphndajaehofoaaDoor.Mm

def ints (zs : List Int) : List Value := zs.map (Value.int .i64)
def okW (z : Int) : Bool := decide (1 ≤ z ∧ z ≤ 64)
def tot (zs : List Int) : Nat := (zs.map Int.toNat).sum
/-- the values of parts of such widths -/
def valsOf (s : ByteArray) (zs : List Int) : List Nat := (List.range zs.length).map fun i => getB s (tot (zs.take i)) (zs.getD i 0).toNat
/-- what Split answers -/
def splitR (s : ByteArray) (zs : List Int) : List Nat × ByteArray × Nat :=
  if zs.all okW = true then (if tot zs % 8 = 0 then (if tot zs / 8 ≤ s.size then (valsOf s zs, s.extract (tot zs / 8) s.size, 0) else ([], ⟨#[]⟩, 1)) else ([], ⟨#[]⟩, 3)) else ([], ⟨#[]⟩, 4)
def SplitPost (s : ByteArray) (zs : List Int) (w : World) (e : Ending) (w' : World) : Prop :=
  ∃ A c, e = .returned (.tuple #[.slice A (splitR s zs).1.length c, .string (splitR s zs).2.1, .int .i64 ((splitR s zs).2.2 : Nat)]) ∧ Rd w' w'.heap.size A (nums .u64 (splitR s zs).1) ∧ Below w.heap.size w w'
theorem length_ints (zs : List Int) : (ints zs).length = zs.length := by simp [ints]
theorem get_ints (zs : List Int) (k : Nat) (h : k < zs.length) : (ints zs)[k]? = some (.int .i64 zs[k]) := by simp [ints, h]
theorem tot_append (a b : List Int) : tot (a ++ b) = tot a + tot b := by simp [tot]
theorem tot_snoc (zs : List Int) (k : Nat) (h : k < zs.length) : tot (zs.take (k + 1)) = tot (zs.take k) + zs[k].toNat := by
  rw [List.take_succ_eq_append_getElem h, tot_append]
  simp [tot]
theorem all_snocW (zs : List Int) (k : Nat) (h : k < zs.length) (ha : (zs.take k).all okW = true) (hb : okW zs[k] = true) : (zs.take (k + 1)).all okW = true := by
  rw [List.take_succ_eq_append_getElem h, List.all_append, ha]
  simp [hb]
theorem tot_le (zs : List Int) (k : Nat) (h : (zs.take k).all okW = true) : tot (zs.take k) ≤ 64 * k := by
  induction k with
  | zero => simp [tot]
  | succ k ih =>
    rcases Nat.lt_or_ge k zs.length with hk | hk
    · have h' := h
      rw [List.take_succ_eq_append_getElem hk, List.all_append, Bool.and_eq_true] at h'
      have h2 : okW zs[k] = true := by simpa using h'.2
      have := ih h'.1
      have h3 := of_decide_eq_true h2
      rw [tot_snoc zs k hk]
      omega
    · rw [List.take_of_length_le (by omega)] at h ⊢
      have := ih (by rw [List.take_of_length_le (by omega)]; exact h)
      rw [List.take_of_length_le (by omega)] at this
      omega
theorem tot_mono (zs : List Int) (k : Nat) (h : k < zs.length) : tot (zs.take k) + zs[k].toNat ≤ tot zs := by
  rw [← tot_snoc zs k h]
  conv => rhs; rw [← List.take_append_drop (k + 1) zs, tot_append]
  omega
theorem splitR_bad (s : ByteArray) (zs : List Int) (k : Nat) (h : k < zs.length) (hb : okW zs[k] = false) : splitR s zs = ([], ⟨#[]⟩, 4) := by
  unfold splitR
  rw [if_neg]
  intro hall
  rw [List.all_eq_true] at hall
  rw [hall _ (List.getElem_mem h)] at hb
  cases hb
theorem info_u64 : (Tryd.prog.info? 62).map (fun i => (i.zero, i.size, i.bytes)) = some (some (.int .u64 0), 1, 8) := by kernel_rfl
/-- of the values those that have been told -/
def firsts (s : ByteArray) (zs : List Int) (k i : Nat) : Nat := if i < k then getB s (tot (zs.take i)) (zs.getD i 0).toNat else 0
theorem firsts_step (s : ByteArray) (zs : List Int) (n k : Nat) (hk : k < zs.length) : (numCells .u64 n (firsts s zs k)).setIfInBounds k (.int .u64 ((getB s (tot (zs.take k)) zs[k].toNat : Nat) : Int)) = numCells .u64 n (firsts s zs (k + 1)) := by
  refine put_numCells .u64 n _ _ _ _ ?_ ?_
  · unfold firsts
    rw [if_pos (by omega)]
    simp [hk]
  · intro i hi
    unfold firsts
    by_cases e : i < k
    · rw [if_pos e, if_pos (by omega)]
    · rw [if_neg e, if_neg (by omega)]

set_option maxRecDepth 100000 in
set_option maxHeartbeats 1000000 in
theorem split_any (s : ByteArray) (zs : List Int) (A : Option Addr) (c : Nat) (w : World) (hs : s.size ≤ maxLen) (hn : zs.length ≤ 100000) (hA : Rd w w.heap.size A (ints zs)) :
    Calls Tryd.prog 30 #[.string s, .slice A zs.length c] w (SplitPost s zs w) := by
  unfold maxLen at hs
  have HA := Lib.hid hA; clear hA
  go_enter Tryd.func30, Tryd.ntmps30
  go_wp2
  go_loop [7, 17] (fun t i => ∃ k : Nat, k ≤ zs.length ∧ i = .int .i64 k ∧ t = .int .i64 (tot (zs.take k) : Nat) ∧ (zs.take k).all okW = true) (fun _ i => zs.length - (intOf i).toNat)
  case atStart => exact ⟨0, Nat.zero_le _, rfl, rfl, rfl⟩
  case round =>
    obtain ⟨k, hk, rfl, rfl, hall⟩ := hrel
    have hle := tot_le zs k hall
    have HL := Lib.hid hall; clear hall
    by_cases hlt : k < zs.length
    · obtain ⟨ad, rfl, hbl, hcell⟩ := HA.out (by rw [length_ints]; omega)
      have c0 := hcell _ _ (get_ints zs k hlt)
      clear hcell
      generalize hp : zs[k] = W at c0
      have HP := Lib.hid hp; clear hp
      by_cases h1 : 1 ≤ W ∧ W ≤ 64
      · obtain ⟨ha1, ha2⟩ := h1
        have HO := Lib.hid (show okW W = true from decide_eq_true ⟨ha1, ha2⟩)
        obtain ⟨Wn, rfl⟩ := Int.eq_ofNat_of_zero_le (show 0 ≤ W by omega)
        go_wp2_with (go_at_call 27; refine (may_yes _ _ (by omega) (by omega)).mono ?_; rintro e w' ⟨rfl, rfl⟩)
        go_round
        case rel =>
          refine ⟨k + 1, by omega, by go_num, ?_, all_snocW zs k hlt HL.out (by rw [HP.out]; exact HO.out)⟩
          rw [tot_snoc zs k hlt, HP.out]
          go_num
        case measure => simp [intOf]; omega
      · have HO := Lib.hid (show okW W = false from decide_eq_false (by omega))
        have h1' : W < 1 ∨ 64 < W := by omega
        clear h1
        go_wp2_with (go_at_call 27; refine (may_no _ _ h1').mono ?_; rintro e w' ⟨rfl, rfl⟩)
        go_ret3
        refine ⟨none, 0, ?_, ?_, Below.refl _ _⟩
        · rw [splitR_bad s zs k hlt (by rw [HP.out]; exact HO.out)]; rfl
        · rw [splitR_bad s zs k hlt (by rw [HP.out]; exact HO.out)]; exact Rd.none _ _ _
    · obtain rfl : k = zs.length := by omega
      rw [List.take_length] at hle HL
      simp only [List.take_length]
      obtain ⟨T, hT⟩ : ∃ T, T = tot zs := ⟨_, rfl⟩
      rw [← hT] at hle ⊢
      have HT := Lib.hid hT; clear hT
      by_cases h8 : T % 8 = 0
      · have ht : ((T : Int) % 8 != 0) = false := by simp; omega
        by_cases hsh : T / 8 ≤ s.size
        · have hf : decide (s.size < T / 8) = false := by simp; omega
          have HR := Lib.hid (show splitR s zs = (valsOf s zs, s.extract (T / 8) s.size, 0) by unfold splitR; rw [if_pos HL.out, ← HT.out, if_pos h8, if_pos hsh])
          have hT8 : T ≤ 8 * s.size := by omega
          clear h8
          obtain ⟨i0, hi, hz0, hz1, hz2⟩ := info_parts info_u64
          have hmk : (Instr.makeSlice 74 (.int .i64 (zs.length : Int)) (.int .i64 (zs.length : Int))).run Tryd.prog w =
              .ok (.slice (some ⟨w.heap.size, 0, none⟩) zs.length zs.length) (w.alloc (.cells (numCells .u64 zs.length (firsts s zs 0)) 62)) := by
            have h := run_make (P := Tryd.prog) w 74 62 i0 (.int .u64 0) Tryd.underlying74 hi hz0 .i64 .i64 (zs.length : Int) (zs.length : Int) (by omega) (Int.le_refl _) (by rw [hz2]; omega) (by omega)
            rw [show ((zs.length : Nat) : Int).toNat = zs.length by omega, hz1, made_nums, numCells_congr (g := firsts s zs 0) (fun i hi => by unfold firsts; rw [if_neg (by omega)])] at h
            exact h
          go_wp2
          clear hmk
          go_loopw [12, 42] (fun t i wr => ∃ k : Nat, k ≤ zs.length ∧ i = .int .i64 k ∧ t = .int .i64 (tot (zs.take k) : Nat) ∧ Blk wr w.heap.size 62 (numCells .u64 zs.length (firsts s zs k)) ∧ Below w.heap.size w wr) (fun _ i _ => zs.length - (intOf i).toNat)
          case atStart => exact ⟨0, Nat.zero_le _, rfl, rfl, Blk.fresh _ _ _, (Below.refl _ _).alloc (Nat.le_refl _) _⟩
          case round =>
            obtain ⟨k, hk, rfl, rfl, hg, hb⟩ := hrel
            by_cases hlt : k < zs.length
            · obtain ⟨ad, rfl, hbl, hcell⟩ := (HA.out.below hb) (by rw [length_ints]; omega)
              have c0 := hcell _ _ (get_ints zs k hlt)
              clear hcell
              have hok := of_decide_eq_true (List.all_eq_true.1 HL.out _ (List.getElem_mem hlt))
              have hto := tot_mono zs k hlt
              rw [← HT.out] at hto
              have htn := tot_snoc zs k hlt
              have hst := firsts_step s zs zs.length k hlt
              have c1 := hg.cell k
              rw [get_numCells _ _ _ _ hlt] at c1
              have c2 := hg.frozen k
              generalize hp : zs[k] = W at c0 hok hto htn hst
              clear hp
              obtain ⟨Wn, rfl⟩ := Int.eq_ofNat_of_zero_le (show 0 ≤ W by omega)
              simp only [Int.toNat_natCast] at hto htn hst
              have HTN := Lib.hid htn; clear htn
              have HST := Lib.hid hst; clear hst
              have HG := Lib.hid hg; clear hg
              have HB := Lib.hid hb; clear hb
              obtain ⟨ha1, ha2⟩ := hok
              go_wp2_with (go_at_call 31; refine (getBits_any s _ _ _ (by unfold maxLen; omega) (by omega) (by omega) (by omega)).mono ?_; rintro e w' ⟨rfl, rfl⟩)
              go_roundw
              case rel =>
                refine ⟨k + 1, by omega, by go_num, by rw [HTN.out]; go_num, ?_, HB.out.setCell (Nat.le_refl _) _⟩
                have h1 := HG.out.put k (.int .u64 ((getB s (tot (zs.take k)) Wn : Nat) : Int))
                rw [HST.out] at h1
                exact h1
              case measure => simp [intOf]; omega
            · obtain rfl : k = zs.length := by omega
              have HG := Lib.hid hg; clear hg
              have HB := Lib.hid hb; clear hb
              have hq : (T : Int) / 8 ≤ (s.size : Int) := by omega
              go_wp2
              go_quiet (fail)
              go_wp2
              go_ret3
              have hv : (valsOf s zs).length = zs.length := by simp [valsOf]
              refine ⟨some ⟨w.heap.size, 0, none⟩, zs.length, by rw [HR.out, hv]; rfl, ?_, below_drewN HB.out nq⟩
              rw [HR.out]
              refine rd_nums hv.symm (fun i hi => ?_) (HG.out.drewN nq)
              unfold firsts
              rw [if_pos hi]
              simp [valsOf, hi]
        · have hf : decide (s.size < T / 8) = true := by simp; omega
          have HR := Lib.hid (show splitR s zs = ([], ⟨#[]⟩, 1) by unfold splitR; rw [if_pos HL.out, ← HT.out, if_pos h8, if_neg hsh])
          clear h8
          go_wp2
          go_ret3
          exact ⟨none, 0, by rw [HR.out]; rfl, by rw [HR.out]; exact Rd.none _ _ _, Below.refl _ _⟩
      · have ht : ((T : Int) % 8 != 0) = true := by simp; omega
        have HR := Lib.hid (show splitR s zs = ([], ⟨#[]⟩, 3) by unfold splitR; rw [if_pos HL.out, ← HT.out, if_neg h8])
        clear h8
        go_wp2
        go_ret3
        exact ⟨none, 0, by rw [HR.out]; rfl, by rw [HR.out]; exact Rd.none _ _ _, Below.refl _ _⟩
end Go.Proofs.YtphndajaehofoaaDoor.Fl
namespace Go.Proofs.YtphndajaehofoaaDoor.Fl
open Go.RowKit Go.Proofs.YtphndajaehofoaaDoor.Bt Go.Proofs.YtphndajaehofoaaDoor.Mm

theorem packR_zero {ps : List (Int × Nat)} {b : List UInt8} (h : packR ps = (b, 0)) : ps.all okP = true ∧ (allBits ps).length % 8 = 0 ∧ b = bytesOf (allBits ps) := by
  unfold packR at h
  split at h
  · rename_i h1
    split at h
    · rename_i h2
      simp only [Prod.mk.injEq] at h
      exact ⟨h1, h2, h.1.symm⟩
    · simp at h
  · simp at h
theorem packR_len {ps : List (Int × Nat)} {b : List UInt8} {k : Nat} (h : packR ps = (b, k)) : b.length ≤ 8 * ps.length := by
  unfold packR at h
  split at h
  · rename_i h1
    split at h
    · simp only [Prod.mk.injEq] at h
      rw [← h.1, length_bytesOf]
      have := len_take_le ps ps.length (by rw [List.take_length]; exact h1)
      rw [List.take_length] at this
      omega
    · simp only [Prod.mk.injEq] at h; rw [← h.1]; simp
  · simp only [Prod.mk.injEq] at h; rw [← h.1]; simp
theorem tot_fst (ps : List (Int × Nat)) : tot (ps.map (·.1)) = (allBits ps).length := by
  induction ps with
  | nil => rfl
  | cons p ps ih =>
    have e : p :: ps = [p] ++ ps := rfl
    rw [e, List.map_append, tot_append, ih, allBits_append, List.length_append]
    simp [tot, allBits]
theorem okW_fst {ps : List (Int × Nat)} (h : ps.all okP = true) : (ps.map (·.1)).all okW = true := by
  rw [List.all_eq_true] at h ⊢
  intro z hz
  obtain ⟨p, hp, rfl⟩ := List.mem_map.1 hz
  have := of_decide_eq_true (h p hp)
  exact decide_eq_true ⟨this.1, this.2.1⟩
theorem data_list (l : List UInt8) : (ByteArray.mk l.toArray).data.toList = l := by simp
theorem size_mk (l : List UInt8) : (ByteArray.mk l.toArray).size = l.length := by rw [← size_list, data_list]
theorem ba_ext {a b : ByteArray} (h : a.data.toList = b.data.toList) : a = b := by
  apply ByteArray.ext
  exact Array.toList_inj.1 h
theorem extract_list (s : ByteArray) (k : Nat) : (s.extract k s.size).data.toList = s.data.toList.drop k := by
  rw [ByteArray.data_extract, Array.toList_extract, List.extract_eq_take_drop]
  rw [List.take_of_length_le (by rw [List.length_drop, size_list]; omega)]
/-- P1.3, one way -/
theorem split_packed (ps : List (Int × Nat)) (b : List UInt8) (behind : ByteArray) (h : packR ps = (b, 0)) (s : ByteArray) (hs : s.data.toList = b ++ behind.data.toList) : splitR s (ps.map (·.1)) = (ps.map (·.2), behind, 0) := by
  obtain ⟨hall, h8, rfl⟩ := packR_zero h
  have hsz : s.size = (allBits ps).length / 8 + behind.size := by rw [← size_list, hs, List.length_append, length_bytesOf, size_list]
  have hbits : bitsB s.data.toList = allBits ps ++ bitsB behind.data.toList := by rw [hs, bitsB_append, bitsB_bytesOf (bin_allBits ps) h8]
  unfold splitR
  rw [if_pos (okW_fst hall), tot_fst, if_pos h8, if_pos (by omega)]
  refine Prod.ext ?_ (Prod.ext ?_ rfl)
  · apply List.ext_getElem
    · simp [valsOf]
    · intro i h1 h2
      have hi : i < ps.length := by simpa using h2
      have e : (valsOf s (ps.map (·.1)))[i] = getB s (allBits (ps.take i)).length ps[i].1.toNat := by
        simp [valsOf, hi, ← tot_fst, List.map_take]
      rw [e]
      unfold getB
      rw [hbits, allBits_cut ps i hi]
      have e2 : (((allBits (ps.take i) ++ (bitsN ps[i].2 ps[i].1.toNat ++ allBits (ps.drop (i + 1)))) ++ bitsB behind.data.toList).drop (allBits (ps.take i)).length).take ps[i].1.toNat = bitsN ps[i].2 ps[i].1.toNat := by
        rw [List.append_assoc, List.drop_left, List.append_assoc, List.take_append_of_le_length (by simp), List.take_of_length_le (by simp)]
      rw [e2, val_bitsN]
      have hok := of_decide_eq_true (List.all_eq_true.1 hall _ (List.getElem_mem hi))
      simp only [List.getElem_map]
      exact Nat.mod_eq_of_lt hok.2.2
  · apply ba_ext
    rw [extract_list, hs, List.drop_left' (by rw [length_bytesOf])]

theorem splitR_zero {s : ByteArray} {zs : List Int} {vs : List Nat} {r : ByteArray} (h : splitR s zs = (vs, r, 0)) : zs.all okW = true ∧ tot zs % 8 = 0 ∧ tot zs / 8 ≤ s.size ∧ vs = valsOf s zs ∧ r = s.extract (tot zs / 8) s.size := by
  unfold splitR at h
  split at h
  · rename_i h1
    split at h
    · rename_i h2
      split at h
      · rename_i h3
        simp only [Prod.mk.injEq] at h
        exact ⟨h1, h2, h3, h.1.symm, h.2.1.symm⟩
      · simp at h
    · simp at h
  · simp at h
theorem splitR_not {s : ByteArray} {zs : List Int} {vs : List Nat} {r : ByteArray} {k : Nat} (h : splitR s zs = (vs, r, k)) (hk : k ≠ 0) : vs = [] := by
  unfold splitR at h
  split at h
  · split at h
    · split at h
      · simp only [Prod.mk.injEq] at h; exact absurd h.2.2.symm hk
      · simp only [Prod.mk.injEq] at h; exact h.1.symm
    · simp only [Prod.mk.injEq] at h; exact h.1.symm
  · simp only [Prod.mk.injEq] at h; exact h.1.symm
theorem length_valsOf (s : ByteArray) (zs : List Int) : (valsOf s zs).length = zs.length := by simp [valsOf]
theorem splitR_len {s : ByteArray} {zs : List Int} {vs : List Nat} {r : ByteArray} {k : Nat} (h : splitR s zs = (vs, r, k)) : vs.length ≤ zs.length := by
  rcases Nat.eq_zero_or_pos k with h0 | h0
  · subst h0
    rw [(splitR_zero h).2.2.2.1, length_valsOf]; omega
  · rw [splitR_not h (by omega)]; simp
theorem get_valsOf (s : ByteArray) (zs : List Int) (i : Nat) (h : i < zs.length) : (valsOf s zs)[i]'(by rw [length_valsOf]; exact h) = getB s (tot (zs.take i)) zs[i].toNat := by simp [valsOf, h]
theorem bitsN_take (l : List Nat) (hl : Bin l) (a n : Nat) (h : a + n ≤ l.length) : bitsN (val ((l.drop a).take n)) n = (l.drop a).take n := by
  have e := bitsN_val ((hl.drop a).take n)
  have hn : ((l.drop a).take n).length = n := by simp; omega
  rw [hn] at e
  exact e
theorem allBits_zip (s : ByteArray) (zs : List Int) (hT : tot zs ≤ 8 * s.size) (k : Nat) (hk : k ≤ zs.length) : allBits ((zs.zip (valsOf s zs)).take k) = (bitsB s.data.toList).take (tot (zs.take k)) := by
  induction k with
  | zero => simp [allBits, tot]
  | succ k ih =>
    have hk' : k < zs.length := by omega
    have hz : k < (zs.zip (valsOf s zs)).length := by rw [List.length_zip, length_valsOf]; omega
    have hm := tot_mono zs k hk'
    rw [take_snocP _ k hz, allBits_snoc, ih (by omega), tot_snoc zs k hk']
    have e : (zs.zip (valsOf s zs))[k] = (zs[k], getB s (tot (zs.take k)) zs[k].toNat) := by
      rw [List.getElem_zip, get_valsOf s zs k hk']
    rw [e]
    show _ ++ bitsN (getB s (tot (zs.take k)) zs[k].toNat) zs[k].toNat = _
    unfold getB
    rw [bitsN_take _ (bin_bitsB _) _ _ (by rw [length_bitsB, size_list]; omega), List.take_add]
/-- P1.3, the other way -/
theorem pack_split (s : ByteArray) (zs : List Int) (vs : List Nat) (r : ByteArray) (h : splitR s zs = (vs, r, 0)) : ∃ b : List UInt8, packR (zs.zip vs) = (b, 0) ∧ b ++ r.data.toList = s.data.toList := by
  obtain ⟨hall, h8, hle, rfl, rfl⟩ := splitR_zero h
  have hab : allBits (zs.zip (valsOf s zs)) = (bitsB s.data.toList).take (tot zs) := by
    have e := allBits_zip s zs (by omega) zs.length (Nat.le_refl _)
    rw [List.take_of_length_le (by rw [List.length_zip, length_valsOf]; omega), List.take_length] at e
    exact e
  have hcut : (bitsB s.data.toList).take (tot zs) = bitsB (s.data.toList.take (tot zs / 8)) := by
    have e : bitsB s.data.toList = bitsB (s.data.toList.take (tot zs / 8)) ++ bitsB (s.data.toList.drop (tot zs / 8)) := by rw [← bitsB_append, List.take_append_drop]
    rw [e, List.take_append_of_le_length (by rw [length_bitsB, List.length_take, size_list]; omega), List.take_of_length_le (by rw [length_bitsB, List.length_take, size_list]; omega)]
  have hok : (zs.zip (valsOf s zs)).all okP = true := by
    rw [List.all_eq_true]
    intro p hp
    obtain ⟨i, hi, rfl⟩ := List.getElem_of_mem hp
    have hi' : i < zs.length := by rw [List.length_zip, length_valsOf] at hi; omega
    have e : (zs.zip (valsOf s zs))[i] = (zs[i], getB s (tot (zs.take i)) zs[i].toNat) := by
      rw [List.getElem_zip, get_valsOf s zs i hi']
    rw [e]
    have hz := of_decide_eq_true (List.all_eq_true.1 hall _ (List.getElem_mem hi'))
    exact decide_eq_true ⟨hz.1, hz.2, getB_lt _ _ _⟩
  refine ⟨bytesOf (allBits (zs.zip (valsOf s zs))), ?_, ?_⟩
  · unfold packR
    rw [if_pos hok, if_pos]
    rw [hab, List.length_take, length_bitsB, size_list]; omega
  · rw [hab, hcut, bytesOf_bitsB, extract_list, List.take_append_drop]
end Go.Proofs.YtphndajaehofoaaDoor.Fl
namespace Go.Proofs.YtphndajaehofoaaDoor.Bt
open Go.Proofs.YtphndajaehofoaaDoor.Fl

theorem bitsN_join (x y k m : Nat) (hy : y < 2 ^ m) : bitsN (x * 2 ^ m + y) (k + m) = bitsN x k ++ bitsN y m := by
  induction m generalizing y with
  | zero =>
    have : y = 0 := by simpa using hy
    subst this
    simp [bitsN_zero]
  | succ m ih =>
    rw [show k + (m + 1) = (k + m) + 1 by omega, bitsN_snoc, bitsN_snoc, ← List.append_assoc]
    have hp := Nat.two_pow_pos m
    have e0 : 2 ^ (m + 1) = 2 * 2 ^ m := by rw [Nat.pow_succ, Nat.mul_comm]
    have e3 : x * 2 ^ (m + 1) = 2 * (x * 2 ^ m) := by rw [e0, Nat.mul_left_comm]
    have e1 : (x * 2 ^ (m + 1) + y) / 2 = x * 2 ^ m + y / 2 := by rw [e3]; omega
    have e2 : (x * 2 ^ (m + 1) + y) % 2 = y % 2 := by rw [e3]; omega
    rw [e1, e2, ih (y / 2) (by omega)]
theorem bytesOf_append {a b : List Nat} (ha : Bin a) (hb : Bin b) (h8 : a.length % 8 = 0) (h8' : b.length % 8 = 0) : bytesOf (a ++ b) = bytesOf a ++ bytesOf b := by
  have e1 : a ++ b = bitsB (bytesOf a ++ bytesOf b) := by rw [bitsB_append, bitsB_bytesOf ha h8, bitsB_bytesOf hb h8']
  rw [e1, bytesOf_bitsB]
/-- a number as so many bytes -/
def putB (v n : Nat) : List UInt8 := bytesOf (bitsN v (8 * n))
theorem length_putB (v n : Nat) : (putB v n).length = n := by unfold putB; rw [length_bytesOf, length_bitsN]; omega
theorem bitsB_putB (v n : Nat) : bitsB (putB v n) = bitsN v (8 * n) := bitsB_bytesOf (bin_bitsN _ _) (by rw [length_bitsN]; omega)
theorem packR_put {v n : Nat} (hn : 1 ≤ n) (hn8 : n ≤ 8) (hv : v < 2 ^ (8 * n)) : packR [(((8 * n : Nat) : Int), v)] = (putB v n, 0) := by
  have e : allBits [(((8 * n : Nat) : Int), v)] = bitsN v (8 * n) := by
    simp only [allBits, List.flatMap_cons, List.flatMap_nil, List.append_nil, Int.toNat_natCast]
  have hok : ([(((8 * n : Nat) : Int), v)]).all okP = true := by
    simp only [List.all_cons, List.all_nil, Bool.and_true, okP, decide_eq_true_eq, Int.toNat_natCast]
    exact ⟨by omega, by omega, hv⟩
  unfold packR
  rw [if_pos hok, e, if_pos (by rw [length_bitsN]; omega)]
  rfl
/-- the number of so many bytes, from a place on -/
def getN (s : List UInt8) (a n : Nat) : Nat := val (bitsB ((s.drop a).take n))
theorem drop_bitsB (s : List UInt8) (a : Nat) : (bitsB s).drop (8 * a) = bitsB (s.drop a) := by
  rcases Nat.lt_or_ge a s.length with h | h
  · have e : bitsB s = bitsB (s.take a) ++ bitsB (s.drop a) := by rw [← bitsB_append, List.take_append_drop]
    have hl : (bitsB (s.take a)).length = 8 * a := by rw [length_bitsB, List.length_take]; omega
    rw [e, List.drop_left' hl]
  · rw [List.drop_of_length_le (by rw [length_bitsB]; omega), List.drop_of_length_le h]; rfl
theorem take_bitsB (s : List UInt8) (n : Nat) : (bitsB s).take (8 * n) = bitsB (s.take n) := by
  rcases Nat.lt_or_ge n s.length with h | h
  · have e : bitsB s = bitsB (s.take n) ++ bitsB (s.drop n) := by rw [← bitsB_append, List.take_append_drop]
    have hl : (bitsB (s.take n)).length = 8 * n := by rw [length_bitsB, List.length_take]; omega
    rw [e, List.take_left' hl]
  · rw [List.take_of_length_le (by rw [length_bitsB]; omega), List.take_of_length_le h]
theorem getB_getN (s : ByteArray) (a n : Nat) : getB s (8 * a) (8 * n) = getN s.data.toList a n := by
  unfold getB getN
  rw [drop_bitsB, take_bitsB]
theorem getN_lt (s : List UInt8) (a n : Nat) : getN s a n < 2 ^ (8 * n) := by
  have h := val_lt (bin_bitsB ((s.drop a).take n))
  refine Nat.lt_of_lt_of_le h (Nat.pow_le_pow_right (by omega) ?_)
  rw [length_bitsB, List.length_take]
  omega
/-- what is put is got -/
theorem getN_putB (v n : Nat) (hv : v < 2 ^ (8 * n)) (p q : List UInt8) : getN (p ++ putB v n ++ q) p.length n = v := by
  unfold getN
  rw [List.append_assoc, List.drop_left, List.take_left' (length_putB v n), bitsB_putB, val_bitsN, Nat.mod_eq_of_lt hv]
/-- what is got is put -/
theorem putB_getN (s : List UInt8) (a n : Nat) (h : a + n ≤ s.length) : putB (getN s a n) n = (s.drop a).take n := by
  have hl : ((s.drop a).take n).length = n := by rw [List.length_take, List.length_drop]; omega
  have e := bitsN_val (bin_bitsB ((s.drop a).take n))
  rw [length_bitsB, hl] at e
  unfold putB getN
  rw [e, bytesOf_bitsB]
end Go.Proofs.YtphndajaehofoaaDoor.Bt
