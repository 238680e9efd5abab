/-
  Contracts of Is, the program's and the document's.
-/
import Derived.Test.YtflofehnclaffaaOam
import Derived.Test.YtflofehnclaffaaRow5
namespace Go.Proofs.Ytflofehnclaffaa.Oa
open Go.RowKit Go.Proofs.Ytflofehnclaffaa.Bt Go.Proofs.Ytflofehnclaffaa.Mm Go.Proofs.Ytflofehnclaffaa.Fl Go.Proofs.Ytflofehnclaffaa.Lw Go.Proofs.Ytflofehnclaffaa.Tg

/-- a head as a value -/
abbrev hdV (l v c f o : Nat) : Value := .agg #[.int .u8 (l : Int), .int .u8 (v : Int), .int .u8 (c : Int), .int .u8 (f : Int), .int .u8 (o : Int)]
/-- a head's cells -/
abbrev hdC (l v c f o : Nat) : Array Value := #[.int .u8 (l : Int), .int .u8 (v : Int), .int .u8 (c : Int), .int .u8 (f : Int), .int .u8 (o : Int)]
theorem ne_t {a b : Nat} (h : a ≠ b) : ((a : Int) != (b : Int)) = true := by simp; omega
theorem ne_f {a b : Nat} (h : a = b) : ((a : Int) != (b : Int)) = false := by simp [h]

set_option maxHeartbeats 1000000 in
theorem is_any (l v c f o a b d e : Nat) (w : World) :
    Calls Try.prog 11 #[hdV l v c f o, .int .u8 (a : Int), .int .u8 (b : Int), .int .u8 (d : Int), .int .u8 (e : Int)] w fun x w' => x = .returned (.int .i64 (isO ⟨l, v, c, f, o⟩ a b d e : Nat)) ∧ Below w.heap.size w w' := by
  unfold isO
  have HB := Lib.hid ((Below.refl w.heap.size w).alloc (Nat.le_refl _) (.cells (hdC l v c f o) 23))
  by_cases h1 : l = a
  · rw [if_neg (by simpa using h1)]
    have h1' := ne_f h1; clear h1
    by_cases h2 : v = b
    · rw [if_neg (by simpa using h2)]
      have h2' := ne_f h2; clear h2
      by_cases h3 : c = d
      · rw [if_neg (by simpa using h3)]
        have h3' := ne_f h3; clear h3
        by_cases h4 : o = e
        · rw [if_neg (by simpa using h4)]
          have h4' := ne_f h4; clear h4
          go_enter Try.func11, Try.ntmps11
          go_wp2
          go_ret
          exact ⟨rfl, HB.out⟩
        · rw [if_pos (by simpa using h4)]
          have h4' := ne_t h4; clear h4
          go_enter Try.func11, Try.ntmps11
          go_wp2
          go_ret
          exact ⟨rfl, HB.out⟩
      · rw [if_pos (by simpa using h3)]
        have h3' := ne_t h3; clear h3
        go_enter Try.func11, Try.ntmps11
        go_wp2
        go_ret
        exact ⟨rfl, HB.out⟩
    · rw [if_pos (by simpa using h2)]
      have h2' := ne_t h2; clear h2
      go_enter Try.func11, Try.ntmps11
      go_wp2
      go_ret
      exact ⟨rfl, HB.out⟩
  · rw [if_pos (by simpa using h1)]
    have h1' := ne_t h1; clear h1
    go_enter Try.func11, Try.ntmps11
    go_wp2
    go_ret
    exact ⟨rfl, HB.out⟩
set_option maxHeartbeats 1000000 in
theorem ris_any (l v c f o a b d e : Nat) (w : World) :
    Calls Try.prog 12 #[hdV l v c f o, .int .u8 (a : Int), .int .u8 (b : Int), .int .u8 (d : Int), .int .u8 (e : Int)] w fun x w' => x = .returned (.int .i64 (isO ⟨l, v, c, f, o⟩ a b d e : Nat)) ∧ Below w.heap.size w w' := by
  unfold isO
  have HB := Lib.hid ((Below.refl w.heap.size w).alloc (Nat.le_refl _) (.cells (hdC l v c f o) 30))
  by_cases h1 : l = a
  · rw [if_neg (by simpa using h1)]
    have h1' := ne_f h1; clear h1
    by_cases h2 : v = b
    · rw [if_neg (by simpa using h2)]
      have h2' := ne_f h2; clear h2
      by_cases h3 : c = d
      · rw [if_neg (by simpa using h3)]
        have h3' := ne_f h3; clear h3
        by_cases h4 : o = e
        · rw [if_neg (by simpa using h4)]
          have h4' := ne_f h4; clear h4
          go_enter Try.func12, Try.ntmps12
          go_wp2
          go_ret
          exact ⟨rfl, HB.out⟩
        · rw [if_pos (by simpa using h4)]
          have h4' := ne_t h4; clear h4
          go_enter Try.func12, Try.ntmps12
          go_wp2
          go_ret
          exact ⟨rfl, HB.out⟩
      · rw [if_pos (by simpa using h3)]
        have h3' := ne_t h3; clear h3
        go_enter Try.func12, Try.ntmps12
        go_wp2
        go_ret
        exact ⟨rfl, HB.out⟩
    · rw [if_pos (by simpa using h2)]
      have h2' := ne_t h2; clear h2
      go_enter Try.func12, Try.ntmps12
      go_wp2
      go_ret
      exact ⟨rfl, HB.out⟩
  · rw [if_pos (by simpa using h1)]
    have h1' := ne_t h1; clear h1
    go_enter Try.func12, Try.ntmps12
    go_wp2
    go_ret
    exact ⟨rfl, HB.out⟩
end Go.Proofs.Ytflofehnclaffaa.Oa
