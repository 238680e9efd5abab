/-
  Tables, the document's: before, find, Look.
  Tables, the document's: Sweep, Flush.
-/
import Derived.Test.YteaghbdeleaanaaFdA
import Derived.Test.YteaghbdeleaanaaFdB
namespace Go.Proofs.Yteaghbdeleaanaa.Fd
open Go.RowKit Go.Proofs.Yteaghbdeleaanaa.Mm Go.Proofs.Yteaghbdeleaanaa.Tg

abbrev rtC (room age : Int) (A : Option Addr) (n c : Nat) : Array Value := #[.int .i64 room, .int .i64 age, .slice A n c]
abbrev rtV (room age : Int) (A : Option Addr) (n c : Nat) : Value := .agg (rtC room age A n c)
abbrev rrV (v a : Int) (p s : Int) : Value := .agg #[.int .u16 v, .int .u64 a, .int .i64 p, .int .i64 s]

/-- the place of a row -/
def idx (l : List Fr) (v a : Nat) : Nat := l.findIdx (fun r => decide (r.vlan = v ∧ r.addr = a))
theorem idx_no {l : List Fr} {v a i : Nat} (h : i < idx l v a) (hi : i < l.length) : ¬ (l[i].vlan = v ∧ l[i].addr = a) := by
  have := List.not_of_lt_findIdx h
  simpa using this
theorem idx_yes {l : List Fr} {v a : Nat} (h : idx l v a < l.length) : l[idx l v a].vlan = v ∧ l[idx l v a].addr = a := by
  have := List.findIdx_getElem (w := h)
  simpa [idx] using this
theorem idx_find (l : List Fr) (v a : Nat) : l[idx l v a]? = findK l v a := by
  unfold idx findK
  induction l with
  | nil => rfl
  | cons x l ih =>
    rw [List.findIdx_cons, List.find?_cons]
    cases decide (x.vlan = v ∧ x.addr = a)
    · simpa using ih
    · rfl

end Go.Proofs.Yteaghbdeleaanaa.Fd
namespace Go.Proofs.Yteaghbdeleaanaa.Fd
open Go.RowKit Go.Proofs.Yteaghbdeleaanaa.Mm Go.Proofs.Yteaghbdeleaanaa.Tg

abbrev noR : Array Value := rtC 0 0 none 0 0
/-- cells of a slice keep while other blocks are made or written -/
theorem Rd.grown' {w w' : World} {B : Nat} {A : Option Addr} {xs : List Value} {row : Option Nat} (h : Rd w B A xs) (hg : w.grownBy w' row) (hB : B ≤ w.heap.size) (hr : ∀ k, row = some k → B ≤ k) : Rd w' B A xs :=
  h.keep fun p hp => World.cell?_of_block (hg.block _ (by omega) (fun e => by have := hr _ e.symm; omega))
theorem filter_take (l : List Fr) (p : Fr → Bool) (k : Nat) (hk : k < l.length) : (l.take (k + 1)).filter p = (l.take k).filter p ++ if p l[k] then [l[k]] else [] := by
  rw [List.take_succ_eq_append_getElem hk, List.filter_append]
  congr 1
  cases h : p l[k] <;> simp [h]
theorem filter_len (l : List Fr) (p : Fr → Bool) (k : Nat) : ((l.take k).filter p).length ≤ k := Nat.le_trans (List.length_filter_le _ _) (by rw [List.length_take]; omega)

end Go.Proofs.Yteaghbdeleaanaa.Fd
