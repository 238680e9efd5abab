/-
  Plain lemmas on bits, bytes and numbers: no program is spoken of here.
-/
namespace Go.Proofs.Ytflofehnclaffaa.Bt

/-- the bits of a number, so many, the highest first -/
def bitsN (v n : Nat) : List Nat := (List.range n).map fun i => v / 2 ^ (n - 1 - i) % 2
/-- the number of bits, the highest first -/
def val (l : List Nat) : Nat := l.foldl (fun a b => 2 * a + b) 0
def Bin (l : List Nat) : Prop := ∀ x ∈ l, x < 2
def nth (l : List Nat) (i : Nat) : Nat := l.getD i 0
/-- byte k of bits -/
def byteF (f : Nat → Nat) (k : Nat) : Nat :=
  f (8 * k + 0) * 128 + f (8 * k + 1) * 64 + f (8 * k + 2) * 32 + f (8 * k + 3) * 16 + f (8 * k + 4) * 8 + f (8 * k + 5) * 4 + f (8 * k + 6) * 2 + f (8 * k + 7)
/-- the bits ahead of place m alone -/
def upTo (l : List Nat) (m i : Nat) : Nat := if i < m then nth l i else 0
/-- whole bytes of bits -/
def bytesOf (l : List Nat) : List UInt8 := (List.range (l.length / 8)).map fun k => UInt8.ofNat (byteF (nth l) k)
/-- bits of bytes -/
def bitsB (s : List UInt8) : List Nat := s.flatMap fun c => bitsN c.toNat 8

@[simp] theorem length_bitsN (v n : Nat) : (bitsN v n).length = n := by simp [bitsN]
theorem bin_bitsN (v n : Nat) : Bin (bitsN v n) := by
  intro x hx
  simp only [bitsN, List.mem_map] at hx
  obtain ⟨i, _, rfl⟩ := hx
  omega
theorem nth_bitsN (v n i : Nat) (h : i < n) : nth (bitsN v n) i = v / 2 ^ (n - 1 - i) % 2 := by
  simp [nth, bitsN, List.getD_eq_getElem?_getD, h]
theorem nth_lt {l : List Nat} (h : Bin l) (i : Nat) : nth l i < 2 := by
  unfold nth
  rw [List.getD_eq_getElem?_getD]
  rcases Nat.lt_or_ge i l.length with hi | hi
  · rw [List.getElem?_eq_getElem hi]; exact h _ (List.getElem_mem hi)
  · rw [List.getElem?_eq_none hi]; simp
theorem Bin.append {l r : List Nat} (h : Bin l) (k : Bin r) : Bin (l ++ r) := by
  intro x hx
  rcases List.mem_append.1 hx with hx | hx
  · exact h x hx
  · exact k x hx
theorem Bin.nil : Bin [] := by intro x hx; cases hx
theorem Bin.take {l : List Nat} (h : Bin l) (n : Nat) : Bin (l.take n) := fun x hx => h x (List.mem_of_mem_take hx)
theorem Bin.drop {l : List Nat} (h : Bin l) (n : Nat) : Bin (l.drop n) := fun x hx => h x (List.mem_of_mem_drop hx)
theorem nth_append_left (l r : List Nat) (i : Nat) (h : i < l.length) : nth (l ++ r) i = nth l i := by
  simp [nth, List.getD_eq_getElem?_getD, List.getElem?_append_left h]
theorem nth_append_right (l r : List Nat) (i : Nat) : nth (l ++ r) (l.length + i) = nth r i := by
  simp [nth, List.getD_eq_getElem?_getD, List.getElem?_append_right (Nat.le_add_right _ _)]
theorem nth_drop (l : List Nat) (k i : Nat) : nth (l.drop k) i = nth l (k + i) := by
  simp [nth, List.getD_eq_getElem?_getD]
theorem nth_take (l : List Nat) (k i : Nat) (h : i < k) : nth (l.take k) i = nth l i := by
  simp [nth, List.getD_eq_getElem?_getD, h]
theorem nth_ge (l : List Nat) (i : Nat) (h : l.length ≤ i) : nth l i = 0 := by
  simp [nth, List.getD_eq_getElem?_getD, List.getElem?_eq_none h]
theorem getElem_eq_nth (l : List Nat) (i : Nat) (h : i < l.length) : l[i] = nth l i := by
  simp [nth, List.getD_eq_getElem?_getD, List.getElem?_eq_getElem h]
theorem ext_nth {l r : List Nat} (hl : l.length = r.length) (h : ∀ i, i < l.length → nth l i = nth r i) : l = r := by
  apply List.ext_getElem hl
  intro i h1 h2
  rw [getElem_eq_nth l i h1, getElem_eq_nth r i h2]
  exact h i h1
theorem take_succ_nth (l : List Nat) (k : Nat) (h : k < l.length) : l.take (k + 1) = l.take k ++ [nth l k] := by
  rw [List.take_succ_eq_append_getElem h, getElem_eq_nth l k h]

/-! ### numbers -/
theorem val_snoc (l : List Nat) (b : Nat) : val (l ++ [b]) = 2 * val l + b := by simp [val]
theorem val_nil : val [] = 0 := rfl
theorem val_lt {l : List Nat} (h : Bin l) : val l < 2 ^ l.length := by
  obtain ⟨n, hn⟩ : ∃ n, n = l.length := ⟨_, rfl⟩
  induction n generalizing l with
  | zero => have : l = [] := List.eq_nil_of_length_eq_zero hn.symm; subst this; simp [val]
  | succ n ih =>
    have hne : l ≠ [] := by intro e; subst e; simp at hn
    obtain ⟨r, b, rfl⟩ : ∃ r b, l = r ++ [b] := ⟨l.dropLast, l.getLast hne, (List.dropLast_concat_getLast hne).symm⟩
    have hr : n = r.length := by simp at hn; exact hn
    have h1 := ih (l := r) (fun x hx => h x (List.mem_append_left _ hx)) hr
    have hb : b < 2 := h b (by simp)
    rw [val_snoc, List.length_append, List.length_singleton, Nat.pow_succ]
    omega
theorem bitsN_zero (v : Nat) : bitsN v 0 = [] := rfl
theorem bitsN_snoc (v n : Nat) : bitsN v (n + 1) = bitsN (v / 2) n ++ [v % 2] := by
  apply ext_nth
  · simp
  · intro i hi
    simp at hi
    rcases Nat.lt_or_ge i n with h | h
    · rw [nth_bitsN _ _ _ hi, nth_append_left _ _ _ (by simpa using h), nth_bitsN _ _ _ h]
      have e : n + 1 - 1 - i = (n - 1 - i) + 1 := by omega
      rw [e, Nat.pow_succ, Nat.mul_comm, Nat.div_div_eq_div_mul]
    · have e : i = (bitsN (v / 2) n).length + 0 := by simp; omega
      rw [nth_bitsN _ _ _ hi]
      have e2 : n + 1 - 1 - i = 0 := by omega
      rw [e2, e, nth_append_right]
      simp [nth]
theorem val_bitsN (n : Nat) : ∀ v, val (bitsN v n) = v % 2 ^ n := by
  induction n with
  | zero => intro v; simp [bitsN, val, Nat.mod_one]
  | succ n ih =>
    intro v
    rw [bitsN_snoc, val_snoc, ih, Nat.pow_succ, Nat.mul_comm (2 ^ n) 2, Nat.mod_mul]
    omega
theorem bitsN_val {l : List Nat} (h : Bin l) : bitsN (val l) l.length = l := by
  obtain ⟨n, hn⟩ : ∃ n, n = l.length := ⟨_, rfl⟩
  induction n generalizing l with
  | zero => have : l = [] := List.eq_nil_of_length_eq_zero hn.symm; subst this; rfl
  | succ n ih =>
    have hne : l ≠ [] := by intro e; subst e; simp at hn
    obtain ⟨r, b, rfl⟩ : ∃ r b, l = r ++ [b] := ⟨l.dropLast, l.getLast hne, (List.dropLast_concat_getLast hne).symm⟩
    have hr : n = r.length := by simp at hn; exact hn
    have h1 := ih (l := r) (fun x hx => h x (List.mem_append_left _ hx)) hr
    have hb : b < 2 := h b (by simp)
    have e1 : (r ++ [b]).length = r.length + 1 := by simp
    rw [e1, val_snoc, bitsN_snoc]
    have e2 : (2 * val r + b) / 2 = val r := by omega
    have e3 : (2 * val r + b) % 2 = b := by omega
    rw [e2, e3, h1]

/-! ### bytes -/
theorem byteF_lt {f : Nat → Nat} (h : ∀ i, f i < 2) (k : Nat) : byteF f k < 256 := by
  have h0 := h (8 * k + 0); have h1 := h (8 * k + 1); have h2 := h (8 * k + 2); have h3 := h (8 * k + 3)
  have h4 := h (8 * k + 4); have h5 := h (8 * k + 5); have h6 := h (8 * k + 6); have h7 := h (8 * k + 7)
  unfold byteF
  omega
theorem byteF_congr {f g : Nat → Nat} {k : Nat} (h : ∀ j, j < 8 → f (8 * k + j) = g (8 * k + j)) : byteF f k = byteF g k := by
  unfold byteF
  rw [h 0 (by omega), h 1 (by omega), h 2 (by omega), h 3 (by omega), h 4 (by omega), h 5 (by omega), h 6 (by omega), h 7 (by omega)]
theorem upTo_lt {l : List Nat} (h : Bin l) (m i : Nat) : upTo l m i < 2 := by
  unfold upTo
  split
  · exact nth_lt h i
  · omega
theorem byteF_zero (l : List Nat) (k : Nat) : byteF (upTo l 0) k = 0 := by simp [byteF, upTo]
theorem byteF_full (l : List Nat) (k : Nat) : byteF (upTo l l.length) k = byteF (nth l) k := by
  apply byteF_congr
  intro j _
  unfold upTo
  split
  · rfl
  · rw [nth_ge]; omega
/-- one bit more, elsewhere -/
theorem byteF_far (l : List Nat) (m k : Nat) (h : k ≠ m / 8) : byteF (upTo l (m + 1)) k = byteF (upTo l m) k := by
  apply byteF_congr
  intro j hj
  unfold upTo
  by_cases e : 8 * k + j < m
  · rw [if_pos e, if_pos (by omega)]
  · rw [if_neg e, if_neg (by omega)]
/-- one bit more -/
theorem byteF_near (l : List Nat) (m : Nat) : byteF (upTo l (m + 1)) (m / 8) = byteF (upTo l m) (m / 8) + nth l m * 2 ^ (7 - m % 8) ∧ byteF (upTo l m) (m / 8) % 2 ^ (8 - m % 8) = 0 := by
  obtain ⟨q, j, rfl, hj⟩ : ∃ q j, m = 8 * q + j ∧ j < 8 := ⟨m / 8, m % 8, by omega, by omega⟩
  have e1 : (8 * q + j) / 8 = q := by omega
  have e2 : (8 * q + j) % 8 = j := by omega
  rw [e1, e2]
  have lo : ∀ i, i < j → upTo l (8 * q + j) (8 * q + i) = nth l (8 * q + i) := fun i hi => by unfold upTo; rw [if_pos (by omega)]
  have hi : ∀ i, j ≤ i → upTo l (8 * q + j) (8 * q + i) = 0 := fun i hi => by unfold upTo; rw [if_neg (by omega)]
  have lo' : ∀ i, i < j + 1 → upTo l (8 * q + j + 1) (8 * q + i) = nth l (8 * q + i) := fun i hi => by unfold upTo; rw [if_pos (by omega)]
  have hi' : ∀ i, j + 1 ≤ i → upTo l (8 * q + j + 1) (8 * q + i) = 0 := fun i hi => by unfold upTo; rw [if_neg (by omega)]
  unfold byteF
  rcases (by omega : j = 0 ∨ j = 1 ∨ j = 2 ∨ j = 3 ∨ j = 4 ∨ j = 5 ∨ j = 6 ∨ j = 7) with rfl | rfl | rfl | rfl | rfl | rfl | rfl | rfl
  · rw [lo' 0 (by omega), hi' 1 (by omega), hi' 2 (by omega), hi' 3 (by omega), hi' 4 (by omega), hi' 5 (by omega), hi' 6 (by omega), hi' 7 (by omega), hi 0 (by omega), hi 1 (by omega), hi 2 (by omega), hi 3 (by omega), hi 4 (by omega), hi 5 (by omega), hi 6 (by omega), hi 7 (by omega)]
    omega
  · rw [lo' 0 (by omega), lo' 1 (by omega), hi' 2 (by omega), hi' 3 (by omega), hi' 4 (by omega), hi' 5 (by omega), hi' 6 (by omega), hi' 7 (by omega), lo 0 (by omega), hi 1 (by omega), hi 2 (by omega), hi 3 (by omega), hi 4 (by omega), hi 5 (by omega), hi 6 (by omega), hi 7 (by omega)]
    omega
  · rw [lo' 0 (by omega), lo' 1 (by omega), lo' 2 (by omega), hi' 3 (by omega), hi' 4 (by omega), hi' 5 (by omega), hi' 6 (by omega), hi' 7 (by omega), lo 0 (by omega), lo 1 (by omega), hi 2 (by omega), hi 3 (by omega), hi 4 (by omega), hi 5 (by omega), hi 6 (by omega), hi 7 (by omega)]
    omega
  · rw [lo' 0 (by omega), lo' 1 (by omega), lo' 2 (by omega), lo' 3 (by omega), hi' 4 (by omega), hi' 5 (by omega), hi' 6 (by omega), hi' 7 (by omega), lo 0 (by omega), lo 1 (by omega), lo 2 (by omega), hi 3 (by omega), hi 4 (by omega), hi 5 (by omega), hi 6 (by omega), hi 7 (by omega)]
    omega
  · rw [lo' 0 (by omega), lo' 1 (by omega), lo' 2 (by omega), lo' 3 (by omega), lo' 4 (by omega), hi' 5 (by omega), hi' 6 (by omega), hi' 7 (by omega), lo 0 (by omega), lo 1 (by omega), lo 2 (by omega), lo 3 (by omega), hi 4 (by omega), hi 5 (by omega), hi 6 (by omega), hi 7 (by omega)]
    omega
  · rw [lo' 0 (by omega), lo' 1 (by omega), lo' 2 (by omega), lo' 3 (by omega), lo' 4 (by omega), lo' 5 (by omega), hi' 6 (by omega), hi' 7 (by omega), lo 0 (by omega), lo 1 (by omega), lo 2 (by omega), lo 3 (by omega), lo 4 (by omega), hi 5 (by omega), hi 6 (by omega), hi 7 (by omega)]
    omega
  · rw [lo' 0 (by omega), lo' 1 (by omega), lo' 2 (by omega), lo' 3 (by omega), lo' 4 (by omega), lo' 5 (by omega), lo' 6 (by omega), hi' 7 (by omega), lo 0 (by omega), lo 1 (by omega), lo 2 (by omega), lo 3 (by omega), lo 4 (by omega), lo 5 (by omega), hi 6 (by omega), hi 7 (by omega)]
    omega
  · rw [lo' 0 (by omega), lo' 1 (by omega), lo' 2 (by omega), lo' 3 (by omega), lo' 4 (by omega), lo' 5 (by omega), lo' 6 (by omega), lo' 7 (by omega), lo 0 (by omega), lo 1 (by omega), lo 2 (by omega), lo 3 (by omega), lo 4 (by omega), lo 5 (by omega), lo 6 (by omega), hi 7 (by omega)]
    omega
/-- a bit is set by 'or' -/
theorem or_bit (x b s : Nat) (hx : x % 2 ^ (s + 1) = 0) (hb : b < 2) : x ||| b * 2 ^ s = x + b * 2 ^ s := by
  have h : x = 2 ^ (s + 1) * (x / 2 ^ (s + 1)) := by have := Nat.div_add_mod x (2 ^ (s + 1)); omega
  have hlt : b * 2 ^ s < 2 ^ (s + 1) := by
    rw [Nat.pow_succ]
    rcases (by omega : b = 0 ∨ b = 1) with rfl | rfl
    · have := Nat.two_pow_pos s; omega
    · have := Nat.two_pow_pos s; omega
  rw [h, Nat.two_pow_add_eq_or_of_lt hlt]
theorem byte_val (l : List Nat) (h : l.length = 8) : val l = byteF (nth l) 0 := by
  match l, h with
  | [a, b, c, d, e, f, g, i], _ => simp [val, byteF, nth]; omega
theorem length_bitsB (s : List UInt8) : (bitsB s).length = 8 * s.length := by
  induction s with
  | nil => rfl
  | cons c s ih => simp [bitsB] at ih ⊢; omega
theorem bitsB_cons (c : UInt8) (s : List UInt8) : bitsB (c :: s) = bitsN c.toNat 8 ++ bitsB s := rfl
theorem bitsB_append (s t : List UInt8) : bitsB (s ++ t) = bitsB s ++ bitsB t := by simp [bitsB]
theorem bin_bitsB (s : List UInt8) : Bin (bitsB s) := by
  induction s with
  | nil => exact Bin.nil
  | cons c s ih => rw [bitsB_cons]; exact (bin_bitsN _ _).append ih
/-- a bit of bytes -/
theorem nth_bitsB : ∀ (s : List UInt8) (i : Nat) (h : i / 8 < s.length), nth (bitsB s) i = (s[i / 8]).toNat / 2 ^ (7 - i % 8) % 2
  | [], i, h => by simp at h
  | c :: s, i, h => by
    rw [bitsB_cons]
    rcases Nat.lt_or_ge i 8 with hi | hi
    · rw [nth_append_left _ _ _ (by simpa using hi), nth_bitsN _ _ _ hi]
      have e : i / 8 = 0 := by omega
      have e2 : i % 8 = i := by omega
      simp only [e, e2, List.getElem_cons_zero]
    · obtain ⟨k, rfl⟩ : ∃ k, i = 8 + k := ⟨i - 8, by omega⟩
      have e := nth_append_right (bitsN c.toNat 8) (bitsB s) k
      rw [length_bitsN] at e
      rw [e, nth_bitsB s k (by simp at h; omega)]
      have e1 : (8 + k) / 8 = k / 8 + 1 := by omega
      have e2 : (8 + k) % 8 = k % 8 := by omega
      simp only [e1, e2, List.getElem_cons_succ]
@[simp] theorem length_bytesOf (l : List Nat) : (bytesOf l).length = l.length / 8 := by simp [bytesOf]
theorem ofNat_toNat (n : Nat) (h : n < 256) : (UInt8.ofNat n).toNat = n := by simp [Nat.mod_eq_of_lt h]
/-- bytes of bits, and back -/
theorem bitsB_bytesOf {l : List Nat} (h : Bin l) (h8 : l.length % 8 = 0) : bitsB (bytesOf l) = l := by
  apply ext_nth
  · rw [length_bitsB, length_bytesOf]; omega
  · intro i hi
    rw [length_bitsB, length_bytesOf] at hi
    have hk : i / 8 < l.length / 8 := by omega
    rw [nth_bitsB _ _ (by simpa using hk)]
    have e : (bytesOf l)[i / 8]'(by simpa using hk) = UInt8.ofNat (byteF (nth l) (i / 8)) := by simp [bytesOf]
    rw [e, ofNat_toNat _ (byteF_lt (fun i => nth_lt h i) _)]
    obtain ⟨q, j, rfl, hj⟩ : ∃ q j, i = 8 * q + j ∧ j < 8 := ⟨i / 8, i % 8, by omega, by omega⟩
    have e1 : (8 * q + j) / 8 = q := by omega
    have e2 : (8 * q + j) % 8 = j := by omega
    rw [e1, e2]
    have h0 := nth_lt h (8 * q + 0); have h1 := nth_lt h (8 * q + 1); have h2 := nth_lt h (8 * q + 2); have h3 := nth_lt h (8 * q + 3)
    have h4 := nth_lt h (8 * q + 4); have h5 := nth_lt h (8 * q + 5); have h6 := nth_lt h (8 * q + 6); have h7 := nth_lt h (8 * q + 7)
    unfold byteF
    simp only [Nat.add_zero] at h0 ⊢
    rcases (by omega : j = 0 ∨ j = 1 ∨ j = 2 ∨ j = 3 ∨ j = 4 ∨ j = 5 ∨ j = 6 ∨ j = 7) with rfl | rfl | rfl | rfl | rfl | rfl | rfl | rfl <;> simp <;> omega
theorem bytesOf_bitsB (s : List UInt8) : bytesOf (bitsB s) = s := by
  apply List.ext_getElem
  · rw [length_bytesOf, length_bitsB]; omega
  · intro k h1 h2
    have e : (bytesOf (bitsB s))[k] = UInt8.ofNat (byteF (nth (bitsB s)) k) := by simp [bytesOf]
    rw [e]
    have hb : ∀ j, j < 8 → nth (bitsB s) (8 * k + j) = (s[k]).toNat / 2 ^ (7 - j) % 2 := by
      intro j hj
      have e1 : (8 * k + j) / 8 = k := by omega
      have e2 : (8 * k + j) % 8 = j := by omega
      rw [nth_bitsB s (8 * k + j) (by omega)]
      simp only [e1, e2]
    have hlt : (s[k]).toNat < 256 := UInt8.toNat_lt _
    have : byteF (nth (bitsB s)) k = (s[k]).toNat := by
      unfold byteF
      rw [hb 0 (by omega), hb 1 (by omega), hb 2 (by omega), hb 3 (by omega), hb 4 (by omega), hb 5 (by omega), hb 6 (by omega), hb 7 (by omega)]
      simp
      omega
    rw [this]
    simp
end Go.Proofs.Ytflofehnclaffaa.Bt
