/-
  Plain lemmas on messages: a head's bytes, and back; its parts by Pack and Split.
  Contracts of Is, the program's and the document's.
  Contracts of oam's Close and of the document's.
  Contract of oam's Close: the rest.
  Contracts of oam's Close and of the document's: both answer closeO; the document's example.
  The statement OamIs: its walk.
-/
import Derived.Test.YtphndajaehofoaaDoorGen
import Derived.Test.YtphndajaehofoaaDoorFld
namespace Go.Proofs.YtphndajaehofoaaDoor.Oa
open Go.Proofs.YtphndajaehofoaaDoor.Bt Go.Proofs.YtphndajaehofoaaDoor.Fl Go.Proofs.YtphndajaehofoaaDoor.Lw Go.Proofs.YtphndajaehofoaaDoor.Tg

structure Hd where
  level : Nat
  version : Nat
  code : Nat
  flags : Nat
  offset : Nat
def zeroH : Hd := ⟨0, 0, 0, 0, 0⟩
def headB (h : Hd) : List UInt8 := [UInt8.ofNat (h.level * 32 + h.version), UInt8.ofNat h.code, UInt8.ofNat h.flags, UInt8.ofNat h.offset]
/-- what Close answers -/
def closeO (h : Hd) (c : List UInt8) : List UInt8 × Nat :=
  if 7 < h.level ∨ 31 < h.version then ([], 4) else if c.length ≠ h.offset then ([], 3) else (headB h ++ (c ++ [0]), 0)
/-- the byte at a place -/
def byteAt (s : List UInt8) (i : Nat) : Nat := (s.getD i 0).toNat
def headOf (s : List UInt8) : Hd := ⟨byteAt s 0 / 32, byteAt s 0 % 32, byteAt s 1, byteAt s 2, byteAt s 3⟩
/-- what Open answers -/
def openO (s : List UInt8) : Hd × List UInt8 × Nat :=
  if s.length < 4 ∨ s.length < 5 + byteAt s 3 then (zeroH, [], 1) else if byteAt s (4 + byteAt s 3) ≠ 0 then (zeroH, [], 3) else (headOf s, (s.drop 4).take (byteAt s 3), 0)
/-- what Is answers -/
def isO (h : Hd) (l v c o : Nat) : Nat := if h.level ≠ l then 7 else if h.version ≠ v then 3 else if h.code ≠ c then 8 else if h.offset ≠ o then 3 else 0

structure Small (h : Hd) : Prop where
  level : h.level < 256
  version : h.version < 256
  code : h.code < 256
  flags : h.flags < 256
  offset : h.offset < 256
theorem closeO_zero {h : Hd} {c b : List UInt8} (e : closeO h c = (b, 0)) : h.level ≤ 7 ∧ h.version ≤ 31 ∧ c.length = h.offset ∧ b = headB h ++ (c ++ [0]) := by
  unfold closeO at e
  split at e
  · simp at e
  · rename_i h1
    split at e
    · simp at e
    · rename_i h2
      simp only [Prod.mk.injEq, and_true] at e
      exact ⟨by omega, by omega, by simpa using h2, e.symm⟩
/-- P4.3 -/
theorem open_closed {h : Hd} {c b : List UInt8} (hs : Small h) (e : closeO h c = (b, 0)) (behind : List UInt8) : openO (b ++ behind) = (h, c, 0) := by
  obtain ⟨h1, h2, h3, rfl⟩ := closeO_zero e
  obtain ⟨_, _, q3, q4, q5⟩ := hs
  have b0 : byteAt (headB h ++ (c ++ [0]) ++ behind) 0 = h.level * 32 + h.version := by simp [byteAt, headB]; omega
  have b1 : byteAt (headB h ++ (c ++ [0]) ++ behind) 1 = h.code := by simp [byteAt, headB]; omega
  have b2 : byteAt (headB h ++ (c ++ [0]) ++ behind) 2 = h.flags := by simp [byteAt, headB]; omega
  have b3 : byteAt (headB h ++ (c ++ [0]) ++ behind) 3 = h.offset := by simp [byteAt, headB]; omega
  have e1 : headB h ++ (c ++ [0]) ++ behind = headB h ++ (c ++ (0 :: behind)) := by simp
  have hl : (headB h).length = 4 := rfl
  have b4 : byteAt (headB h ++ (c ++ [0]) ++ behind) (4 + h.offset) = 0 := by
    rw [e1, ← h3]
    unfold byteAt
    rw [List.getD_eq_getElem?_getD, List.getElem?_append_right (by rw [hl]; omega), hl, Nat.add_sub_cancel_left, List.getElem?_append_right (Nat.le_refl _), Nat.sub_self]
    rfl
  have hc : ((headB h ++ (c ++ [0]) ++ behind).drop 4).take h.offset = c := by
    rw [e1, List.drop_left' hl, List.take_left' h3]
  have hln : (headB h ++ (c ++ [0]) ++ behind).length = 5 + h.offset + behind.length := by
    simp only [List.length_append, hl, List.length_singleton, h3]
    omega
  unfold openO
  rw [b3, if_neg (by rw [hln]; omega), if_neg (by rw [b4]; simp), hc]
  unfold headOf
  rw [b0, b1, b2, b3]
  obtain ⟨l, v, cd, fl, o⟩ := h
  simp only at h1 h2
  simp only [Prod.mk.injEq, Hd.mk.injEq, and_true]
  omega

/-- a head's parts -/
abbrev partsH (l v c f o : Nat) : List (Int × Nat) := [(3, l), (5, v), (8, c), (8, f), (8, o)]
abbrev widthsH : List Int := [3, 5, 8, 8, 8]
theorem byte_bits (x : Nat) (h : x < 256) : bytesOf (bitsN x 8) = [UInt8.ofNat x] := by
  have e : bitsN x 8 = bitsB [UInt8.ofNat x] := by simp [bitsB, Nat.mod_eq_of_lt h]
  rw [e, bytesOf_bitsB]
theorem pack_head (l v c f o : Nat) (hl : l ≤ 7) (hv : v ≤ 31) (hc : c < 256) (hf : f < 256) (ho : o < 256) : packR (partsH l v c f o) = (headB ⟨l, v, c, f, o⟩, 0) := by
  have e0 : bitsN l 3 ++ bitsN v 5 = bitsN (l * 32 + v) 8 := (bitsN_join l v 3 5 (by omega)).symm
  have e : allBits (partsH l v c f o) = bitsB (headB ⟨l, v, c, f, o⟩) := by
    have e1 : allBits (partsH l v c f o) = (bitsN l 3 ++ bitsN v 5) ++ (bitsN c 8 ++ (bitsN f 8 ++ bitsN o 8)) := by simp [allBits]
    rw [e1, e0]
    simp [headB, bitsB, Nat.mod_eq_of_lt (show l * 32 + v < 256 by omega), Nat.mod_eq_of_lt hc, Nat.mod_eq_of_lt hf, Nat.mod_eq_of_lt ho]
  have hok : (partsH l v c f o).all okP = true := by
    simp only [List.all_cons, List.all_nil, Bool.and_true, Bool.and_eq_true, okP, decide_eq_true_eq]
    refine ⟨⟨by omega, by omega, ?_⟩, ⟨by omega, by omega, ?_⟩, ⟨by omega, by omega, ?_⟩, ⟨by omega, by omega, ?_⟩, ⟨by omega, by omega, ?_⟩⟩ <;> simp <;> omega
  unfold packR
  rw [if_pos hok, e, if_pos (by rw [length_bitsB]; omega), bytesOf_bitsB]
theorem byte_get (s : ByteArray) (i : Nat) (h : i < s.size) : getB s (8 * i) 8 = byteAt s.data.toList i := by
  have hl : i < s.data.toList.length := by rw [size_list]; exact h
  have e : (s.data.toList.drop i).take 1 = [s.data.toList[i]] := by rw [List.drop_eq_getElem_cons hl]; rfl
  have g := getB_getN s i 1
  rw [show 8 * 1 = 8 from rfl] at g
  rw [g]
  unfold getN byteAt
  rw [e]
  have e2 : bitsB [s.data.toList[i]] = bitsN (s.data.toList[i]).toNat 8 := by simp [bitsB]
  rw [e2, val_bitsN, Nat.mod_eq_of_lt (UInt8.toNat_lt _), List.getD_eq_getElem?_getD, List.getElem?_eq_getElem hl]
  rfl
theorem split_head (s : ByteArray) (h : 4 ≤ s.size) : splitR s widthsH = ([(headOf s.data.toList).level, (headOf s.data.toList).version, (headOf s.data.toList).code, (headOf s.data.toList).flags, (headOf s.data.toList).offset], s.extract 4 s.size, 0) := by
  have e1 : widthsH.all okW = true := by decide
  have e2 : tot widthsH = 32 := by decide
  have ev : valsOf s widthsH = [getB s 0 3, getB s 3 5, getB s 8 8, getB s 16 8, getB s 24 8] := rfl
  have h0 := getB_join s 0 3 5 (by omega)
  have b0 := byte_get s 0 (by omega)
  have b1 := byte_get s 1 (by omega)
  have b2 := byte_get s 2 (by omega)
  have b3 := byte_get s 3 (by omega)
  have l1 := getB_lt s 3 5
  simp only [Nat.reduceAdd, Nat.reduceMul, Nat.reducePow, Nat.zero_add, Nat.mul_zero, Nat.mul_one] at h0 b0 b1 b2 b3 l1
  have p0 : getB s 0 3 = byteAt s.data.toList 0 / 32 := by omega
  have p1 : getB s 3 5 = byteAt s.data.toList 0 % 32 := by omega
  unfold splitR
  rw [if_pos e1, e2, if_pos (by decide), if_pos (by omega), ev, p0, p1, b1, b2, b3]
  rfl
theorem split_head_short (s : ByteArray) (h : s.size < 4) : splitR s widthsH = ([], ⟨#[]⟩, 1) := by
  have e1 : widthsH.all okW = true := by decide
  have e2 : tot widthsH = 32 := by decide
  unfold splitR
  rw [if_pos e1, e2, if_pos (by decide), if_neg (by omega)]
end Go.Proofs.YtphndajaehofoaaDoor.Oa
namespace Go.Proofs.YtphndajaehofoaaDoor.Oa
open Go.RowKit Go.Proofs.YtphndajaehofoaaDoor.Bt Go.Proofs.YtphndajaehofoaaDoor.Mm Go.Proofs.YtphndajaehofoaaDoor.Fl Go.Proofs.YtphndajaehofoaaDoor.Lw Go.Proofs.YtphndajaehofoaaDoor.Tg

/-- a head as a value -/
abbrev hdV (l v c f o : Nat) : Value := .agg #[.int .u8 (l : Int), .int .u8 (v : Int), .int .u8 (c : Int), .int .u8 (f : Int), .int .u8 (o : Int)]
/-- a head's cells -/
abbrev hdC (l v c f o : Nat) : Array Value := #[.int .u8 (l : Int), .int .u8 (v : Int), .int .u8 (c : Int), .int .u8 (f : Int), .int .u8 (o : Int)]
theorem ne_t {a b : Nat} (h : a ≠ b) : ((a : Int) != (b : Int)) = true := by simp; omega
theorem ne_f {a b : Nat} (h : a = b) : ((a : Int) != (b : Int)) = false := by simp [h]

end Go.Proofs.YtphndajaehofoaaDoor.Oa
namespace Go.Proofs.YtphndajaehofoaaDoor.Oa
open Go.RowKit Go.Proofs.YtphndajaehofoaaDoor.Bt Go.Proofs.YtphndajaehofoaaDoor.Mm Go.Proofs.YtphndajaehofoaaDoor.Fl Go.Proofs.YtphndajaehofoaaDoor.Lw Go.Proofs.YtphndajaehofoaaDoor.Tg

/-- 'string([]byte{..})' -/
theorem back_new {P : Program} {src dst e : TypeId} (w : World) (cs : Array Value) (l : List UInt8) (n c : Nat) (hcs : cs.toList = byteVals l) (hn : l.length = n) (hs : P.underlying src = some (.slice e)) (he : P.underlying e = some (.int .u8)) (hd : P.underlying dst = some .string) :
    (convert src dst (.slice (some ⟨w.heap.size, 0, none⟩) n c)).run P (w.alloc (.cells cs e)) = .ok (.string ⟨l.toArray⟩) (w.alloc (.cells cs e)) := by
  subst hn
  refine run_convert_bytes_back (P := P) _ src dst e ⟨w.heap.size, 0, none⟩ c l hs he hd (fun j hj => ?_)
  rw [add_zero_block, (Blk.fresh w e cs).cell, ← Array.getElem?_toList, hcs]
  simp [byteVals, hj]
theorem gt_t {a : Nat} {b : Int} (h : b < (a : Int)) : decide (b < (a : Int)) = true := by simpa using h
theorem gt_f {a : Nat} {b : Int} (h : ¬ b < (a : Int)) : decide (b < (a : Int)) = false := by simpa using h

end Go.Proofs.YtphndajaehofoaaDoor.Oa
namespace Go.Proofs.YtphndajaehofoaaDoor.Oa
open Go.RowKit Go.Proofs.YtphndajaehofoaaDoor.Bt Go.Proofs.YtphndajaehofoaaDoor.Mm Go.Proofs.YtphndajaehofoaaDoor.Fl Go.Proofs.YtphndajaehofoaaDoor.Lw Go.Proofs.YtphndajaehofoaaDoor.Tg

end Go.Proofs.YtphndajaehofoaaDoor.Oa
namespace Go.Proofs.YtphndajaehofoaaDoor.Oa
open Go.RowKit Go.Proofs.YtphndajaehofoaaDoor.Bt Go.Proofs.YtphndajaehofoaaDoor.Mm Go.Proofs.YtphndajaehofoaaDoor.Fl Go.Proofs.YtphndajaehofoaaDoor.Lw Go.Proofs.YtphndajaehofoaaDoor.Tg

theorem app_end (l : List UInt8) (s : ByteArray) : ((⟨l.toArray⟩ : ByteArray) ++ s) ++ (⟨#[0]⟩ : ByteArray) = ⟨(l ++ (s.data.toList ++ [0])).toArray⟩ := by
  apply ba_ext
  simp
theorem byte_of {x : Nat} (h : x < 256) : (UInt8.ofNat x).toNat = x := by simp; omega
theorem awake_closeO : closeO ⟨7, 1, 40, 0, 0⟩ (⟨#[]⟩ : ByteArray).data.toList = ([225, 40, 0, 0, 0], 0) := by decide +kernel
end Go.Proofs.YtphndajaehofoaaDoor.Oa
namespace Go.Proofs.YtphndajaehofoaaDoor.Oa
open Go.RowKit Go.Proofs.YtphndajaehofoaaDoor.Bt Go.Proofs.YtphndajaehofoaaDoor.Mm Go.Proofs.YtphndajaehofoaaDoor.Fl Go.Proofs.YtphndajaehofoaaDoor.Lw Go.Proofs.YtphndajaehofoaaDoor.Tg

end Go.Proofs.YtphndajaehofoaaDoor.Oa
