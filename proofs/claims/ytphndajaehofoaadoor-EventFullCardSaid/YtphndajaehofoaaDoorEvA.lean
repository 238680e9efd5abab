/-
  Events, plain: their bytes, what is wrong with them, the events of bytes; a slice of events as it reads.
-/
import Derived.Test.YtphndajaehofoaaDoorEvO
import Derived.Test.YtphndajaehofoaaDoorOamA
import Derived.Test.YtphndajaehofoaaDoorRgK
namespace Go.Proofs.YtphndajaehofoaaDoor.Ev
open Go.RowKit Go.Proofs.YtphndajaehofoaaDoor.Bt Go.Proofs.YtphndajaehofoaaDoor.Mm Go.Proofs.YtphndajaehofoaaDoor.Fl Go.Proofs.YtphndajaehofoaaDoor.Tg Go.Proofs.YtphndajaehofoaaDoor.Oa Go.Proofs.YtphndajaehofoaaDoor.Op
set_option linter.unusedVariables false
set_option linter.unusedSimpArgs false

abbrev Ev := Nat × Nat × Nat × Nat × ByteArray
abbrev evL (q : Ev) : List Value := [.int .u8 (q.1 : Int), .int .u8 (q.2.1 : Int), .int .u8 (q.2.2.1 : Int), .int .u8 (q.2.2.2.1 : Int), .string q.2.2.2.2]
abbrev evC (k a b c : Nat) (s : ByteArray) : Array Value := #[.int .u8 (k : Int), .int .u8 (a : Int), .int .u8 (b : Int), .int .u8 (c : Int), .string s]
abbrev evV (k a b c : Nat) (s : ByteArray) : Value := .agg (evC k a b c s)
abbrev evQ (q : Ev) : Value := evV q.1 q.2.1 q.2.2.1 q.2.2.2.1 q.2.2.2.2
abbrev zeroC : Array Value := #[.int .u8 0, .int .u8 0, .int .u8 0, .int .u8 0, .string ⟨#[]⟩]
def okE (q : Ev) : Prop := q.1 < 256 ∧ q.2.1 < 256 ∧ q.2.2.1 < 256 ∧ q.2.2.2.1 < 256 ∧ q.2.2.2.2.size ≤ maxLen
def zeroE : Ev := (0, 0, 0, 0, ⟨#[]⟩)
/-- what is wrong with an event -/
def faultE (q : Ev) : Nat := if 7 < q.1 then 10 else if 1600 < q.2.2.2.2.size then 2 else 0
def headE (k a b c n : Nat) : List UInt8 := [UInt8.ofNat k, UInt8.ofNat a, UInt8.ofNat b, UInt8.ofNat c, UInt8.ofNat (n / 256), UInt8.ofNat (n % 256)]
def bytesE (q : Ev) : List UInt8 := headE q.1 q.2.1 q.2.2.1 q.2.2.2.1 q.2.2.2.2.size ++ q.2.2.2.2.data.toList
/-- what is wrong with the first that is wrong -/
def faults : List Ev → Nat
  | [] => 0
  | q :: l => if faultE q = 0 then faults l else faultE q
/-- what Close answers -/
def closeE (l : List Ev) : List UInt8 × Nat := if faults l = 0 then (if 10000 < l.length then ([], 9) else (l.flatMap bytesE, 0)) else ([], faults l)
def byE (s : ByteArray) (i : Nat) : Nat := byteAt s.data.toList i
def numE (s : ByteArray) (i : Nat) : Nat := byE s (i + 4) * 256 + byE s (i + 5)
def evAt (s : ByteArray) (i : Nat) : Ev := (byE s i, byE s (i + 1), byE s (i + 2), byE s (i + 3), s.extract (i + 6) (i + 6 + numE s i))
/-- what is wrong at a place -/
def stepE (s : ByteArray) (i : Nat) : Nat := if s.size - i < 6 then 1 else if s.size - i - 6 < numE s i then 1 else faultE (evAt s i)
/-- the events from a place on, up to the first that is wrong -/
def eachE (s : ByteArray) (i : Nat) : List (Ev × Nat) :=
  if i < s.size then (if stepE s i = 0 then (evAt s i, 0) :: eachE s (i + 6 + numE s i) else [(zeroE, stepE s i)]) else []
termination_by s.size - i
def openL : List (Ev × Nat) → List Ev → List Ev × Nat
  | [], t => (t, 0)
  | x :: r, t => if t.length = 10000 then ([], 9) else if x.2 = 0 then openL r (t ++ [x.1]) else ([], x.2)
/-- what Open answers -/
def openE (s : ByteArray) : List Ev × Nat := openL (eachE s 0) []

theorem byE_lt (s : ByteArray) (i : Nat) : byE s i < 256 := UInt8.toNat_lt _
theorem numE_lt (s : ByteArray) (i : Nat) : numE s i < 65536 := by
  have := byE_lt s (i + 4); have := byE_lt s (i + 5)
  unfold numE; omega
theorem byE_get (s : ByteArray) (i : Nat) (h : i < s.size) : byE s i = (s[i]'h).toNat := by
  unfold byE byteAt
  have h' : i < s.data.toList.length := by rw [size_list]; exact h
  rw [List.getD_eq_getElem?_getD, List.getElem?_eq_getElem h']
  rfl
theorem cut_cut (s : ByteArray) (i a b : Nat) : (s.extract i s.size).extract a b = s.extract (i + a) (min (i + b) s.size) := by
  rw [ByteArray.extract_extract]
theorem size_cut (s : ByteArray) (i : Nat) : (s.extract i s.size).size = s.size - i := by rw [ByteArray.size_extract]; omega
theorem byE_cut (s : ByteArray) (i j : Nat) (h : i + j < s.size) : byE (s.extract i s.size) j = byE s (i + j) := by
  have h' : j < (s.extract i s.size).size := by rw [size_cut]; omega
  rw [byE_get _ _ h', byE_get _ _ h, ByteArray.getElem_extract]
theorem stepE_fits {s : ByteArray} {i : Nat} (h : stepE s i = 0) : i + 6 + numE s i ≤ s.size ∧ byE s i ≤ 7 ∧ numE s i ≤ 1600 := by
  unfold stepE at h
  split at h
  · simp at h
  · split at h
    · simp at h
    · have e : (evAt s i).2.2.2.2.size = numE s i := by show (s.extract (i + 6) (i + 6 + numE s i)).size = _; rw [ByteArray.size_extract]; omega
      unfold faultE at h
      split at h
      · simp at h
      · split at h
        · simp at h
        · rename_i h3 h4
          rw [e] at h4
          have : (evAt s i).1 = byE s i := rfl
          omega
end Go.Proofs.YtphndajaehofoaaDoor.Ev
