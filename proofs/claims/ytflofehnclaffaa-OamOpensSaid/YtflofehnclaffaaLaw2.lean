/-
  The statement FieldSplits: its walk.
-/
import Derived.Test.YtflofehnclaffaaLaw1
import Derived.Test.YtflofehnclaffaaRef3
namespace Go.Proofs.Ytflofehnclaffaa.Lw
open Go.RowKit Go.Proofs.Ytflofehnclaffaa.Bt Go.Proofs.Ytflofehnclaffaa.Mm Go.Proofs.Ytflofehnclaffaa.Fl Go.Proofs.Ytflofehnclaffaa.Rf

def SplitAt (vs : List Nat) (r : ByteArray) (k : Nat) (w : World) (e : Ending) (w' : World) : Prop :=
  ∃ A c, e = .returned (.tuple #[.slice A vs.length c, .string r, .int .i64 (k : Nat)]) ∧ Rd w' w'.heap.size A (nums .u64 vs) ∧ Below w.heap.size w w'
theorem split_at {vs : List Nat} {r : ByteArray} {k : Nat} (s : ByteArray) (zs : List Int) (A : Option Addr) (c : Nat) (w : World) (h : splitR s zs = (vs, r, k)) (hs : s.size ≤ maxLen) (hn : zs.length ≤ 100000) (hA : Rd w w.heap.size A (ints zs)) :
    Calls Try.prog 15 #[.string s, .slice A zs.length c] w (SplitAt vs r k w) :=
  (split_any s zs A c w hs hn hA).mono fun e w' ⟨A', c', h1, h2, h3⟩ => by
    rw [h] at h1 h2
    exact ⟨A', c', h1, h2, h3⟩
end Go.Proofs.Ytflofehnclaffaa.Lw
