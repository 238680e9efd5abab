/-
  Plain lemmas on the ring's messages: their bytes, and back.
  Contracts of raps' small functions and of the document's wrong.
  Contract of raps' Close.
  Contract of raps' Close: where nothing is wrong.
-/
import Derived.Test.YtoiggajjbjcabaaMacB
import Derived.Test.YtoiggajjbjcabaaOamA
import Derived.Laws.OwnMore
namespace Go.Proofs.Ytoiggajjbjcabaa.Rp
open Go.Proofs.Ytoiggajjbjcabaa.Bt Go.Proofs.Ytoiggajjbjcabaa.Fl Go.Proofs.Ytoiggajjbjcabaa.Hx Go.Proofs.Ytoiggajjbjcabaa.Mc Go.Proofs.Ytoiggajjbjcabaa.Tg Go.Proofs.Ytoiggajjbjcabaa.Oa

structure Ms where
  req : Nat
  block : Bool
  keep : Bool
  east : Bool
  node : Nat
def zeroM : Ms := ⟨0, false, false, false, 0⟩
def kindB (n : Nat) : Bool := n == 0 || (n == 7 || (n == 11 || n == 13))
/-- what is wrong with a message -/
def wrongM (m : Ms) : Nat := if kindB m.req = false then 8 else if m.block = true ∧ m.req ≠ 0 then 3 else if mayB m.node = false ∨ groupB m.node = true then 4 else 0
def bitN (b : Bool) (n : Nat) : Nat := if b = true then n else 0
/-- the second byte of the content -/
def marks (m : Ms) : Nat := bitN m.block 128 + bitN m.keep 64 + bitN m.east 32
def noughts (n : Nat) : List UInt8 := List.replicate n 0
def content (m : Ms) : List UInt8 := UInt8.ofNat (m.req * 16) :: UInt8.ofNat (marks m) :: (bytesM m.node ++ noughts 24)
/-- what Close answers -/
def closeM (m : Ms) (level : Nat) : List UInt8 × Nat := if 7 < level then ([], 4) else if wrongM m ≠ 0 then ([], wrongM m) else closeO ⟨level, 1, 40, 0, 32⟩ (content m)
/-- the message that stands in a content -/
def msgOf (c : List UInt8) : Ms := ⟨byteAt c 0 / 16, decide (128 ≤ byteAt c 1), byteAt c 1 / 64 % 2 == 1, byteAt c 1 / 32 % 2 == 1, getN c 2 6⟩
/-- something that should be 0 isn't -/
def stray (h : Hd) (c : List UInt8) : Prop := h.flags ≠ 0 ∨ byteAt c 0 % 16 ≠ 0 ∨ byteAt c 1 % 32 ≠ 0 ∨ c.drop 8 ≠ noughts 24
instance (h : Hd) (c : List UInt8) : Decidable (stray h c) := by unfold stray; exact inferInstance
/-- what Open answers behind layer 4's Open -/
def openA (h : Hd) (c : List UInt8) (level : Nat) : Ms × Nat :=
  if isO h level 1 40 32 ≠ 0 then (zeroM, isO h level 1 40 32) else if stray h c then (zeroM, 3) else if wrongM (msgOf c) ≠ 0 then (zeroM, wrongM (msgOf c)) else (msgOf c, 0)
/-- what Open answers -/
def openM (s : List UInt8) (level : Nat) : Ms × Nat := if (openO s).2.2 ≠ 0 then (zeroM, (openO s).2.2) else openA (openO s).1 (openO s).2.1 level

theorem wrongM_zero {m : Ms} (h : wrongM m = 0) : kindB m.req = true ∧ (m.block = true → m.req = 0) ∧ m.node < 281474976710656 ∧ groupB m.node = false := by
  unfold wrongM at h
  split at h
  · simp at h
  rename_i h1
  split at h
  · simp at h
  rename_i h2
  split at h
  · simp at h
  rename_i h3
  refine ⟨by simpa using h1, fun hb => ?_, ?_, ?_⟩
  · by_cases e : m.req = 0
    · exact e
    · exact absurd ⟨hb, e⟩ h2
  · by_cases e : m.node < 281474976710656
    · exact e
    · exact absurd (.inl (decide_eq_false e)) h3
  · cases e : groupB m.node with
    | false => rfl
    | true => exact absurd (.inr e) h3
theorem kind_lt {n : Nat} (h : kindB n = true) : n < 16 := by
  unfold kindB at h
  simp only [Bool.or_eq_true, beq_iff_eq] at h
  omega
theorem marks_lt (m : Ms) : marks m < 256 ∧ marks m % 32 = 0 := by
  unfold marks bitN
  cases m.block <;> cases m.keep <;> cases m.east <;> simp
theorem length_content {m : Ms} (h : m.node < 281474976710656) : (content m).length = 32 := by
  unfold content noughts
  simp [length_bytesM h]
theorem closeM_zero {m : Ms} {l : Nat} {b : List UInt8} (h : closeM m l = (b, 0)) : l ≤ 7 ∧ wrongM m = 0 ∧ closeO ⟨l, 1, 40, 0, 32⟩ (content m) = (b, 0) := by
  unfold closeM at h
  split at h
  · simp at h
  rename_i h1
  split at h
  · rename_i h2
    simp only [Prod.mk.injEq] at h
    exact absurd h.2 h2
  rename_i h2
  exact ⟨by omega, by simpa using h2, h⟩
theorem close_content {m : Ms} {l : Nat} (hl : l ≤ 7) (hw : wrongM m = 0) : closeO ⟨l, 1, 40, 0, 32⟩ (content m) = (headB ⟨l, 1, 40, 0, 32⟩ ++ (content m ++ [0]), 0) := by
  have hc := length_content (wrongM_zero hw).2.2.1
  unfold closeO
  rw [if_neg (by simp only; omega), if_neg (by simp only [hc]; simp)]
theorem byte_at_cons (a : UInt8) (l : List UInt8) : byteAt (a :: l) 0 = a.toNat := rfl
theorem byte_at_succ (a : UInt8) (l : List UInt8) (i : Nat) : byteAt (a :: l) (i + 1) = byteAt l i := rfl
/-- the message that stands in a message's content -/
theorem msgOf_content {m : Ms} (h : wrongM m = 0) : msgOf (content m) = m ∧ byteAt (content m) 0 % 16 = 0 ∧ byteAt (content m) 1 % 32 = 0 ∧ (content m).drop 8 = noughts 24 := by
  obtain ⟨hk, _, hn, _⟩ := wrongM_zero h
  have hr := kind_lt hk
  obtain ⟨hm, hm2⟩ := marks_lt m
  have b0 : byteAt (content m) 0 = m.req * 16 := by
    show (UInt8.ofNat (m.req * 16)).toNat = _
    exact ofNat_toNat _ (by omega)
  have b1 : byteAt (content m) 1 = marks m := by
    show (UInt8.ofNat (marks m)).toNat = _
    exact ofNat_toNat _ hm
  have g : getN (content m) 2 6 = m.node := by
    have := getN_putB m.node 6 (by simpa using hn) [UInt8.ofNat (m.req * 16), UInt8.ofNat (marks m)] (noughts 24)
    rw [show putB m.node 6 = bytesM m.node by unfold bytesM; rw [bytesM_yes hn]; rfl] at this
    simpa [content] using this
  refine ⟨?_, by rw [b0]; omega, by rw [b1]; exact hm2, ?_⟩
  · unfold msgOf
    rw [b0, b1, g]
    obtain ⟨req, block, keep, east, node⟩ := m
    simp only at hr
    simp only [Ms.mk.injEq, and_true]
    unfold marks bitN
    refine ⟨by omega, ?_⟩
    cases block <;> cases keep <;> cases east <;> simp
  · show (bytesM m.node ++ noughts 24).drop 6 = noughts 24
    rw [List.drop_left' (length_bytesM hn)]
theorem small_head {l : Nat} (h : l ≤ 7) : Small ⟨l, 1, 40, 0, 32⟩ := ⟨by show l < 256; omega, by show 1 < 256; omega, by show 40 < 256; omega, by show 0 < 256; omega, by show 32 < 256; omega⟩
/-- P5.2, one way -/
theorem open_closed {m : Ms} {l : Nat} {b : List UInt8} (h : closeM m l = (b, 0)) : openM b l = (m, 0) := by
  obtain ⟨hl, hw, hc⟩ := closeM_zero h
  have ho := Oa.open_closed (small_head hl) hc []
  rw [List.append_nil] at ho
  obtain ⟨e1, e2, e3, e4⟩ := msgOf_content hw
  unfold openM
  rw [ho, if_neg (by simp)]
  unfold openA
  rw [if_neg (by simp [isO]), if_neg (by unfold stray; simp [e2, e3, e4]), e1, if_neg (by simpa using hw)]
theorem open_other {m : Ms} {l o : Nat} {b : List UInt8} (h : closeM m l = (b, 0)) (hne : o ≠ l) : openM b o = (zeroM, 7) := by
  obtain ⟨hl, hw, hc⟩ := closeM_zero h
  have ho := Oa.open_closed (small_head hl) hc []
  rw [List.append_nil] at ho
  have hi : isO ⟨l, 1, 40, 0, 32⟩ o 1 40 32 = 7 := by unfold isO; rw [if_pos (fun e => hne e.symm)]
  unfold openM
  rw [ho, if_neg (by simp)]
  unfold openA
  rw [hi, if_pos (by simp)]
theorem length_closed {m : Ms} {l : Nat} {b : List UInt8} (h : closeM m l = (b, 0)) : b.length = 37 := by
  obtain ⟨hl, hw, hc⟩ := closeM_zero h
  obtain ⟨_, _, h3, rfl⟩ := closeO_zero hc
  simp only [headB, List.length_append, List.length_cons, List.length_nil, h3]
theorem isO_zero {h : Hd} {l v c o : Nat} (e : isO h l v c o = 0) : h.level = l ∧ h.version = v ∧ h.code = c ∧ h.offset = o := by
  unfold isO at e
  split at e
  · simp at e
  rename_i h1
  split at e
  · simp at e
  rename_i h2
  split at e
  · simp at e
  rename_i h3
  split at e
  · simp at e
  rename_i h4
  exact ⟨by simpa using h1, by simpa using h2, by simpa using h3, by simpa using h4⟩
theorem openM_zero {s : List UInt8} {l : Nat} {m : Ms} (h : openM s l = (m, 0)) : (openO s).2.2 = 0 ∧ isO (openO s).1 l 1 40 32 = 0 ∧ ¬ stray (openO s).1 (openO s).2.1 ∧ m = msgOf (openO s).2.1 ∧ wrongM m = 0 := by
  unfold openM at h
  split at h
  · rename_i h1
    simp only [Prod.mk.injEq] at h
    exact absurd h.2 h1
  rename_i h1
  unfold openA at h
  split at h
  · rename_i h2
    simp only [Prod.mk.injEq] at h
    exact absurd h.2 h2
  rename_i h2
  split at h
  · simp at h
  rename_i h3
  split at h
  · rename_i h4
    simp only [Prod.mk.injEq] at h
    exact absurd h.2 h4
  rename_i h4
  simp only [Prod.mk.injEq, and_true] at h
  subst h
  exact ⟨by simpa using h1, by simpa using h2, h3, rfl, by simpa using h4⟩
theorem openM_err {s : List UInt8} {l : Nat} {m : Ms} {k : Nat} (h : openM s l = (m, k)) (hk : k ≠ 0) : m = zeroM := by
  unfold openM at h
  split at h
  · simp only [Prod.mk.injEq] at h; exact h.1.symm
  unfold openA at h
  split at h
  · simp only [Prod.mk.injEq] at h; exact h.1.symm
  split at h
  · simp only [Prod.mk.injEq] at h; exact h.1.symm
  split at h
  · simp only [Prod.mk.injEq] at h; exact h.1.symm
  · simp only [Prod.mk.injEq] at h; exact absurd h.2.symm hk
/-- a content of 32 bytes in which nothing strays is the content of its message -/
theorem content_msgOf {c : List UInt8} (hl : c.length = 32) (h0 : byteAt c 0 % 16 = 0) (h1 : byteAt c 1 % 32 = 0) (h8 : c.drop 8 = noughts 24) : content (msgOf c) = c := by
  match c, hl with
  | a :: b :: r, hl =>
    have hr : r.length = 30 := by simpa using hl
    have e0 : byteAt (a :: b :: r) 0 = a.toNat := rfl
    have e1 : byteAt (a :: b :: r) 1 = b.toNat := rfl
    rw [e0] at h0
    rw [e1] at h1
    have ha := UInt8.toNat_lt a
    have hb := UInt8.toNat_lt b
    have hg : getN (a :: b :: r) 2 6 < 281474976710656 := by have := getN_lt (a :: b :: r) 2 6; simpa using this
    have hm : marks (msgOf (a :: b :: r)) = b.toNat := by
      unfold marks msgOf bitN
      rw [e1]
      simp only [decide_eq_true_eq, beq_iff_eq]
      split <;> split <;> split <;> omega
    have hq : (msgOf (a :: b :: r)).req * 16 = a.toNat := by
      show a.toNat / 16 * 16 = a.toNat
      omega
    have hbm : bytesM (getN (a :: b :: r) 2 6) = r.take 6 := by
      unfold bytesM
      rw [bytesM_yes hg]
      have := putB_getN (a :: b :: r) 2 6 (by simp [hr])
      exact this
    have h8' : r.drop 6 = noughts 24 := h8
    unfold content
    rw [hq, hm]
    show UInt8.ofNat a.toNat :: UInt8.ofNat b.toNat :: (bytesM (getN (a :: b :: r) 2 6) ++ noughts 24) = a :: b :: r
    rw [hbm, ← h8', List.take_append_drop]
    simp
/-- what is opened, of no more bytes than a message has, is closed as it was (layer 4) -/
theorem closeO_opened {s : List UInt8} (h : (openO s).2.2 = 0) (hl : s.length = 5 + (openO s).1.offset) : closeO (openO s).1 (openO s).2.1 = (s, 0) ∧ (openO s).2.1.length = (openO s).1.offset := by
  unfold openO at h hl ⊢
  split at h
  · simp at h
  rename_i h1
  rw [if_neg h1] at hl ⊢
  split at h
  · simp at h
  rename_i h2
  rw [if_neg h2] at hl ⊢
  simp only at hl ⊢
  have hb0 : byteAt s 0 < 256 := UInt8.toNat_lt _
  have ho : (headOf s).offset = byteAt s 3 := rfl
  rw [ho] at hl ⊢
  have hcl : ((s.drop 4).take (byteAt s 3)).length = byteAt s 3 := by rw [List.length_take, List.length_drop]; omega
  have h2' : byteAt s (4 + byteAt s 3) = 0 := by simpa using h2
  refine ⟨?_, hcl⟩
  unfold closeO
  rw [if_neg (by show ¬ (7 < byteAt s 0 / 32 ∨ 31 < byteAt s 0 % 32); omega), if_neg (by rw [ho]; simpa using hcl)]
  have hh : headB (headOf s) = s.take 4 := by
    match s, hl with
    | a :: b :: c :: d :: r, _ =>
      have ha := UInt8.toNat_lt a
      have e : a.toNat / 32 * 32 + a.toNat % 32 = a.toNat := by omega
      show [UInt8.ofNat (a.toNat / 32 * 32 + a.toNat % 32), UInt8.ofNat b.toNat, UInt8.ofNat c.toNat, UInt8.ofNat d.toNat] = [a, b, c, d]
      rw [e]
      simp
    | [], hl => simp at hl; omega
    | [_], hl => simp at hl; omega
    | [_, _], hl => simp at hl; omega
    | [_, _, _], hl => simp at hl; omega
  have hz : [(0 : UInt8)] = (s.drop 4).drop (byteAt s 3) := by
    rw [List.drop_drop]
    have hlt : 4 + byteAt s 3 < s.length := by omega
    rw [List.drop_eq_getElem_cons hlt, List.drop_eq_nil_of_le (by omega)]
    congr 1
    generalize 4 + byteAt s 3 = i at h2' hlt
    unfold byteAt at h2'
    rw [List.getD_eq_getElem?_getD, List.getElem?_eq_getElem hlt] at h2'
    exact (UInt8.toNat_inj.1 h2').symm
  rw [hh, hz, List.take_append_drop, List.take_append_drop]
/-- P5.2, the other way -/
theorem close_opened {s : List UInt8} {l : Nat} {m : Ms} (h : openM s l = (m, 0)) (hl7 : s.length = 37) : closeM m l = (s, 0) := by
  obtain ⟨h0, hi, hst, rfl, hw⟩ := openM_zero h
  obtain ⟨i1, i2, i3, i4⟩ := isO_zero hi
  obtain ⟨hc, hcl⟩ := closeO_opened h0 (by rw [i4]; omega)
  obtain ⟨c1, _, _, _⟩ := closeO_zero hc
  unfold stray at hst
  have s0 : (openO s).1.flags = 0 := by
    by_cases e : (openO s).1.flags = 0
    · exact e
    · exact absurd (.inl e) hst
  have hh : (openO s).1 = ⟨l, 1, 40, 0, 32⟩ := by
    generalize (openO s).1 = x at i1 i2 i3 i4 s0
    obtain ⟨a, b, c, d, e⟩ := x
    simp only at i1 i2 i3 i4 s0
    subst i1 i2 i3 i4 s0
    rfl
  have hct : content (msgOf (openO s).2.1) = (openO s).2.1 := by
    refine content_msgOf (by rw [hcl, i4]) ?_ ?_ ?_
    · by_cases e : byteAt (openO s).2.1 0 % 16 = 0
      · exact e
      · exact absurd (.inr (.inl e)) hst
    · by_cases e : byteAt (openO s).2.1 1 % 32 = 0
      · exact e
      · exact absurd (.inr (.inr (.inl e))) hst
    · by_cases e : (openO s).2.1.drop 8 = noughts 24
      · exact e
      · exact absurd (.inr (.inr (.inr e))) hst
  rw [hh] at hc c1
  unfold closeM
  rw [if_neg (by simp only at c1; omega), if_neg (by simpa using hw), hct, hc]
end Go.Proofs.Ytoiggajjbjcabaa.Rp
namespace Go.Proofs.Ytoiggajjbjcabaa.Rp
open Go.RowKit Go.Proofs.Ytoiggajjbjcabaa.Bt Go.Proofs.Ytoiggajjbjcabaa.Mm Go.Proofs.Ytoiggajjbjcabaa.Fl Go.Proofs.Ytoiggajjbjcabaa.Lw Go.Proofs.Ytoiggajjbjcabaa.Hx Go.Proofs.Ytoiggajjbjcabaa.Mc Go.Proofs.Ytoiggajjbjcabaa.Tg Go.Proofs.Ytoiggajjbjcabaa.Oa

/-- a message as a value -/
abbrev msV (q : Nat) (b k e : Bool) (n : Nat) : Value := .agg #[.int .u8 (q : Int), .bool b, .bool k, .bool e, .int .u64 (n : Int)]
/-- a message's cells -/
abbrev msC (q : Nat) (b k e : Bool) (n : Nat) : Array Value := #[.int .u8 (q : Int), .bool b, .bool k, .bool e, .int .u64 (n : Int)]
theorem eq_t {a : Nat} {b : Int} (h : (a : Int) = b) : ((a : Int) == b) = true := by simpa using h
theorem eq_f {a : Nat} {b : Int} (h : ¬ (a : Int) = b) : ((a : Int) == b) = false := by simpa using h
theorem neq_t {a : Nat} {b : Int} (h : ¬ (a : Int) = b) : ((a : Int) != b) = true := by simpa using h
theorem neq_f {a : Nat} {b : Int} (h : (a : Int) = b) : ((a : Int) != b) = false := by simpa using h

theorem kind_cases (q : Nat) : kindB q = decide (q = 0 ∨ q = 7 ∨ q = 11 ∨ q = 13) := by
  unfold kindB
  rw [Bool.eq_iff_iff]
  simp
/-- what boolParts hands on -/
def PartsPost (ps : List (Int × Nat)) (w : World) (e : Ending) (w' : World) : Prop :=
  ∃ (R : Option Addr) (rc : Nat), e = .returned (.slice R ps.length rc) ∧ w'.ownsRow w.heap.size 67 2 (.slice R ps.length rc) ps.length (partCells ps) ∧ Below w.heap.size w w'
def bitPs (bs : List Bool) : List (Int × Nat) := bs.map fun b => (1, bitN b 1)
end Go.Proofs.Ytoiggajjbjcabaa.Rp
namespace Go.Proofs.Ytoiggajjbjcabaa.Rp
open Go.RowKit Go.Proofs.Ytoiggajjbjcabaa.Bt Go.Proofs.Ytoiggajjbjcabaa.Mm Go.Proofs.Ytoiggajjbjcabaa.Fl Go.Proofs.Ytoiggajjbjcabaa.Lw Go.Proofs.Ytoiggajjbjcabaa.Hx Go.Proofs.Ytoiggajjbjcabaa.Mc Go.Proofs.Ytoiggajjbjcabaa.Tg Go.Proofs.Ytoiggajjbjcabaa.Oa

/-- a message's parts -/
abbrev partsM (q : Nat) (b k e : Bool) (n : Nat) : List (Int × Nat) := [(4, q), (4, 0), (1, bitN b 1), (1, bitN k 1), (1, bitN e 1), (5, 0), (48, n)]
abbrev firstM (q : Nat) (b k e : Bool) (n : Nat) : List UInt8 := UInt8.ofNat (q * 16) :: UInt8.ofNat (marks ⟨q, b, k, e, n⟩) :: bytesM n
theorem bitsB_bytesM {n : Nat} (h : n < 281474976710656) : bitsB (bytesM n) = bitsN n 48 := by
  unfold bytesM
  rw [bytesM_yes h]
  exact bitsB_bytesOf (bin_bitsN _ _) (by rw [length_bitsN])
theorem marks_bits (q : Nat) (b k e : Bool) (n : Nat) : bitsN (bitN b 1) 1 ++ (bitsN (bitN k 1) 1 ++ (bitsN (bitN e 1) 1 ++ bitsN 0 5)) = bitsN (marks ⟨q, b, k, e, n⟩) 8 := by
  show _ = bitsN (bitN b 128 + bitN k 64 + bitN e 32) 8
  clear q n
  revert b k e
  decide +kernel
theorem pack_msg (q : Nat) (b k e : Bool) (n : Nat) (hq : q < 16) (hn : n < 281474976710656) : packR (partsM q b k e n) = (firstM q b k e n, 0) := by
  have hm := (marks_lt ⟨q, b, k, e, n⟩).1
  have e0 : bitsN q 4 ++ bitsN 0 4 = bitsN (q * 16 + 0) 8 := (bitsN_join q 0 4 4 (by omega)).symm
  have eA : allBits (partsM q b k e n) = bitsB (firstM q b k e n) := by
    have e1 : allBits (partsM q b k e n) = (bitsN q 4 ++ bitsN 0 4) ++ ((bitsN (bitN b 1) 1 ++ (bitsN (bitN k 1) 1 ++ (bitsN (bitN e 1) 1 ++ bitsN 0 5))) ++ bitsN n 48) := by simp [allBits]
    rw [e1, e0, marks_bits q b k e n, bitsB_cons, bitsB_cons, bitsB_bytesM hn, ofNat_toNat _ hm, ofNat_toNat _ (by omega), Nat.add_zero]
  have hok : (partsM q b k e n).all okP = true := by
    have hb : ∀ b, bitN b 1 < 2 := by intro b; cases b <;> simp [bitN]
    have h1 := hb b
    have h2 := hb k
    have h3 := hb e
    simp only [List.all_cons, List.all_nil, Bool.and_true, Bool.and_eq_true, okP, decide_eq_true_eq]
    refine ⟨⟨by omega, by omega, ?_⟩, ⟨by omega, by omega, ?_⟩, ⟨by omega, by omega, ?_⟩, ⟨by omega, by omega, ?_⟩, ⟨by omega, by omega, ?_⟩, ⟨by omega, by omega, ?_⟩, ⟨by omega, by omega, ?_⟩⟩ <;> simp <;> omega
  unfold packR
  rw [if_pos hok, eA, if_pos (by rw [length_bitsB]; omega), bytesOf_bitsB]

/-- 'make([]byte, 24)' -/
theorem make24 (w : World) : (Instr.makeSlice 54 (.int .i64 24) (.int .i64 24)).run Try.prog w = .ok (.slice (some ⟨w.heap.size, 0, none⟩) 24 24) (w.alloc (.cells (byteVals (noughts 24)).toArray 5)) := by
  obtain ⟨i0, hi, hz0, hz1, hz2⟩ := info_parts info_u8
  have h := run_make (P := Try.prog) w 54 5 i0 (.int .u8 0) Try.underlying54 hi hz0 .i64 .i64 24 24 (by omega) (Int.le_refl _) (by rw [hz2]; decide) (by decide)
  rw [hz1, made_nums] at h
  exact h
theorem make16 (w : World) : (Instr.makeSlice 54 (.int .i64 16) (.int .i64 16)).run Try.prog w = .ok (.slice (some ⟨w.heap.size, 0, none⟩) 16 16) (w.alloc (.cells (byteVals (noughts 16)).toArray 5)) := by
  obtain ⟨i0, hi, hz0, hz1, hz2⟩ := info_parts info_u8
  have h := run_make (P := Try.prog) w 54 5 i0 (.int .u8 0) Try.underlying54 hi hz0 .i64 .i64 16 16 (by omega) (Int.le_refl _) (by rw [hz2]; decide) (by decide)
  rw [hz1, made_nums] at h
  exact h
theorem back24 (w : World) : (convert 54 9 (.slice (some ⟨w.heap.size, 0, none⟩) 24 24)).run Try.prog (w.alloc (.cells (byteVals (noughts 24)).toArray 5)) = .ok (.string ⟨(noughts 24).toArray⟩) (w.alloc (.cells (byteVals (noughts 24)).toArray 5)) :=
  back_new w _ (noughts 24) 24 24 rfl rfl Try.underlying54 Try.underlying5 Try.underlying9
theorem back16 (w : World) : (convert 54 9 (.slice (some ⟨w.heap.size, 0, none⟩) 16 16)).run Try.prog (w.alloc (.cells (byteVals (noughts 16)).toArray 5)) = .ok (.string ⟨(noughts 16).toArray⟩) (w.alloc (.cells (byteVals (noughts 16)).toArray 5)) :=
  back_new w _ (noughts 16) 16 16 rfl rfl Try.underlying54 Try.underlying5 Try.underlying9

/-- what boolParts hands on of three -/
def ThreePost (b k e : Bool) (w : World) (x : Ending) (w' : World) : Prop :=
  ∃ (g rc : Nat), x = .returned (.slice (some ⟨g, 0, none⟩) 3 rc) ∧ (∀ j u, (partCells (bitPs [b, k, e]))[j]? = some u → w'.cell? ((Addr.mk g 0 none).add j) = some u) ∧ Below w.heap.size w w'
end Go.Proofs.Ytoiggajjbjcabaa.Rp
namespace Go.Proofs.Ytoiggajjbjcabaa.Rp
open Go.RowKit Go.Proofs.Ytoiggajjbjcabaa.Bt Go.Proofs.Ytoiggajjbjcabaa.Mm Go.Proofs.Ytoiggajjbjcabaa.Fl Go.Proofs.Ytoiggajjbjcabaa.Lw Go.Proofs.Ytoiggajjbjcabaa.Hx Go.Proofs.Ytoiggajjbjcabaa.Mc Go.Proofs.Ytoiggajjbjcabaa.Tg Go.Proofs.Ytoiggajjbjcabaa.Oa

theorem parts_split (q : Nat) (b k e : Bool) (n : Nat) : partCells (partsM q b k e n) = ([.int .i64 4, .int .u64 (q : Int), .int .i64 4, .int .u64 0] ++ partCells (bitPs [b, k, e])) ++ [.int .i64 5, .int .u64 0, .int .i64 48, .int .u64 (n : Int)] := by
  simp [partCells, bitPs]
theorem one_parts (ps : List (Int × Nat)) : ∀ u ∈ partCells ps, u.oneCell' = true := by
  intro u hu
  simp only [partCells, List.mem_flatMap, List.mem_cons, List.not_mem_nil, or_false] at hu
  obtain ⟨p, _, rfl | rfl⟩ := hu <;> rfl
/-- Pack of parts that were collected -/
theorem pack_own {base n c k : Nat} {A : Option Addr} {e : TypeId} {xs : List Value} {s : List UInt8} (ps : List (Int × Nat)) (w : World) (h : w.ownsRow base e 2 (.slice A n c) n xs) (hx : xs = partCells ps) (hn : ps.length = n) (hn2 : n ≤ 100000) (hv : ∀ p ∈ ps, p.2 < 18446744073709551616) (hr : packR ps = (s, k)) :
    Calls Try.prog 39 #[.slice A n c] w fun e w' => e = .returned (.tuple #[.string ⟨s.toArray⟩, .int .i64 (k : Nat)]) ∧ Below w.heap.size w w' := by
  subst hx hn
  have h2 := pack_any ps A c w hn2 (Rd.of_own h) hv
  rw [hr] at h2
  exact h2
end Go.Proofs.Ytoiggajjbjcabaa.Rp
