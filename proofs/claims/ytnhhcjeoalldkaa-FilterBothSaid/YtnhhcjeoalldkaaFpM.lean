/-
  What the texts FpA, FpB, FpP, FpQ, SaidFilterPasses, SaidFilterBoth use of the older texts Fld, Ref, LawF, Gen, RgK, Open.
-/
import Derived.WalkKit
import Derived.Laws.OwnMore
import Derived.Laws.Rows
import Derived.Deep.Draws
import Derived.Deep.AppendLies
import Derived.Laws.IdiomStrings
import Derived.Test.YtnhhcjeoalldkaaProg
import Derived.WalkSpells
import Derived.WalkLawsBesides
import Derived.Laws.BitsAllLaws
import Derived.Lib.Hide
import Derived.Outline
import Derived.RegionTactic
import Derived.BigRegion
import Derived.Deep.QuietTactic
import Derived.BigQuiet
import Derived.Maps.AppendAt
import Derived.Deep.RegionWith
import Derived.StillTailTactics
import Derived.Deep.RegionHeld3
import Derived.Deep.DeepCutAuto
import Derived.Laws.ResultCell
import Derived.Test.YtnhhcjeoalldkaaRows
import Derived.ProofKit
import Derived.OpenShut
import Derived.ShutString
import Derived.ChangeOld
import Derived.Below
import Derived.Deep.Slices
import Derived.Deep.Fields
namespace Go.Proofs.Ytnhhcjeoalldkaa.Bt
end Go.Proofs.Ytnhhcjeoalldkaa.Bt
namespace Go.Proofs.Ytnhhcjeoalldkaa.Mm
end Go.Proofs.Ytnhhcjeoalldkaa.Mm
namespace Go.Proofs.Ytnhhcjeoalldkaa.Fl
end Go.Proofs.Ytnhhcjeoalldkaa.Fl
namespace Go.Proofs.Ytnhhcjeoalldkaa.Rf
end Go.Proofs.Ytnhhcjeoalldkaa.Rf
namespace Go.Proofs.Ytnhhcjeoalldkaa.Lw
end Go.Proofs.Ytnhhcjeoalldkaa.Lw
namespace Go.Proofs.Ytnhhcjeoalldkaa.Tg
end Go.Proofs.Ytnhhcjeoalldkaa.Tg
namespace Go.Proofs.Ytnhhcjeoalldkaa.Rw2
end Go.Proofs.Ytnhhcjeoalldkaa.Rw2
namespace Go.Proofs.Ytnhhcjeoalldkaa.Rw3
end Go.Proofs.Ytnhhcjeoalldkaa.Rw3
namespace Go.Proofs.Ytnhhcjeoalldkaa.Rw5
end Go.Proofs.Ytnhhcjeoalldkaa.Rw5
namespace Go.Proofs.Ytnhhcjeoalldkaa.Rg
end Go.Proofs.Ytnhhcjeoalldkaa.Rg
namespace Go.Proofs.Ytnhhcjeoalldkaa.Op
end Go.Proofs.Ytnhhcjeoalldkaa.Op
namespace Go.Proofs.Ytnhhcjeoalldkaa.Bt

def Bin (l : List Nat) : Prop := ∀ x ∈ l, x < 2
theorem Bin.append {l r : List Nat} (h : Bin l) (k : Bin r) : Bin (l ++ r) := by
  intro x hx
  rcases List.mem_append.1 hx with hx | hx
  · exact h x hx
  · exact k x hx
theorem Bin.nil : Bin [] := by intro x hx; cases hx
theorem Bin.take {l : List Nat} (h : Bin l) (n : Nat) : Bin (l.take n) := fun x hx => h x (List.mem_of_mem_take hx)
end Go.Proofs.Ytnhhcjeoalldkaa.Bt
namespace Go.Proofs.Ytnhhcjeoalldkaa.Mm
open Go.RowKit

/-- block g is just these cells, none of them frozen -/
def Blk (w : World) (g : Nat) (t : TypeId) (cs : Array Value) : Prop := w.heap[g]? = some (.cells cs t (0, 0))
section
variable {w w' : World} {g : Nat} {t : TypeId} {cs : Array Value}
theorem Blk.lt (h : Blk w g t cs) : g < w.heap.size := by
  unfold Blk at h
  exact (Array.getElem?_eq_some_iff.1 h).1
theorem Blk.cell (h : Blk w g t cs) (i : Nat) : w.cell? ⟨g, i, none⟩ = cs[i]? := cell_of_row w g i cs t (0, 0) h
theorem Blk.frozen (h : Blk w g t cs) (i : Nat) : w.frozen? ⟨g, i, none⟩ = false := by
  unfold Blk at h
  simp [World.frozen?, h]
theorem Blk.fresh (w : World) (t : TypeId) (cs : Array Value) : Blk (w.alloc (.cells cs t)) w.heap.size t cs := heap_alloc_new w _
theorem Blk.drew (h : Blk w g t cs) : Blk w.drew g t cs := h
theorem Blk.drewN (h : Blk w g t cs) (n : Nat) : Blk (w.drewN n) g t cs := h
theorem Blk.alloc (h : Blk w g t cs) (o : Obj) : Blk (w.alloc o) g t cs := (Below.heap_alloc w o g h.lt).trans h
theorem Blk.put (h : Blk w g t cs) (i : Nat) (u : Value) : Blk (w.setCell ⟨g, i, none⟩ u) g t (cs.setIfInBounds i u) := by
  unfold Blk at h ⊢
  simp [World.setCell, Array.getElem?_modify, h]
theorem Blk.below {B : Nat} (h : Blk w g t cs) (hb : Below B w w') (hg : g < B) : Blk w' g t cs := (hb.block g hg).trans h
theorem Blk.grown {row : Option Nat} (h : Blk w g t cs) (hb : w.grownBy w' row) (hg : some g ≠ row) : Blk w' g t cs := (hb.block g h.lt hg).trans h
end

/-- of w, all but block g is as it was -/
def Only (g : Nat) (w w' : World) : Prop := w.grownBy w' (some g)
section
variable {a w : World} {g : Nat}
theorem Only.refl (g : Nat) (w : World) : Only g w w := World.grownBy.refl w _
theorem Only.drew (h : Only g a w) : Only g a w.drew := ⟨h.os, h.tape, h.output, h.size, h.block⟩
theorem Only.drewN (h : Only g a w) (n : Nat) : Only g a (w.drewN n) := ⟨h.os, h.tape, h.output, h.size, h.block⟩
theorem Only.alloc (h : Only g a w) (o : Obj) : Only g a (w.alloc o) :=
  ⟨h.os, h.tape, h.output, Nat.le_trans h.size (by simp), fun i hi hne => (Below.heap_alloc w o i (Nat.lt_of_lt_of_le hi h.size)).trans (h.block i hi hne)⟩
theorem Only.put (h : Only g a w) (i : Nat) (u : Value) : Only g a (w.setCell ⟨g, i, none⟩ u) :=
  ⟨h.os, h.tape, h.output, by simpa [World.setCell] using h.size, fun k hk hne => (Below.heap_setCell w _ u k (by
    rintro rfl
    exact hne rfl)).trans (h.block k hk hne)⟩
theorem Only.trans {b c : World} (h : Only g a b) (k : Only g b c) : Only g a c :=
  ⟨k.os.trans h.os, k.tape.trans h.tape, k.output.trans h.output, Nat.le_trans h.size k.size, fun i hi hne => (k.block i (Nat.lt_of_lt_of_le hi h.size) hne).trans (h.block i hi hne)⟩
theorem Only.below (h : Only g a w) {B : Nat} (hB : B ≤ g) (hs : B ≤ a.heap.size) : Below B a w :=
  ⟨h.os, h.tape, h.output, h.size, fun k hk => h.block k (Nat.lt_of_lt_of_le hk hs) (by intro e; injection e; omega)⟩
end

/-- a slice value that holds these cells, below block B -/
def Rd (w : World) (B : Nat) (A : Option Addr) (xs : List Value) : Prop :=
  0 < xs.length → ∃ ad : Addr, A = some ad ∧ ad.block < B ∧ ∀ j u, xs[j]? = some u → w.cell? (ad.add j) = some u
theorem block_add (a : Addr) (n : Nat) : (a.add n).block = a.block := by unfold Addr.add; split <;> rfl
section
variable {w w' : World} {B B' : Nat} {A : Option Addr} {xs : List Value}
theorem Rd.keep (h : Rd w B A xs) (hk : ∀ p : Addr, p.block < B → w'.cell? p = w.cell? p) : Rd w' B A xs := fun hn => by
  obtain ⟨ad, e, hb, hc⟩ := h hn
  exact ⟨ad, e, hb, fun j u hu => (hk _ (by rw [block_add]; exact hb)).trans (hc j u hu)⟩
theorem Rd.below (h : Rd w B A xs) (hb : Below B w w') : Rd w' B A xs := h.keep fun _ hp => hb.cell hp
theorem Rd.more (h : Rd w B A xs) (hB : B ≤ B') : Rd w B' A xs := fun hn => by
  obtain ⟨ad, e, hb, hc⟩ := h hn
  exact ⟨ad, e, by omega, hc⟩
theorem Rd.none (w : World) (B : Nat) (A : Option Addr) : Rd w B A [] := fun h => by simp at h
theorem Rd.of_own {base : Nat} {e : TypeId} {size n c : Nat} (h : w.ownsRow base e size (.slice A n c) n xs) : Rd w w.heap.size A xs := fun hn => by
  have h1 := h.1
  have h2 : 0 < n := by
    rcases Nat.eq_zero_or_pos n with h0 | h0
    · subst h0; simp at h1; subst h1; simp at hn
    · exact h0
  obtain ⟨g, cap, hv, _, hlt⟩ := h.form h2
  have hA : A = some ⟨g, 0, Option.none⟩ := by injection hv
  subst hA
  exact ⟨_, rfl, hlt, h.cells (g := g) rfl⟩
end

section
variable {w w' : World} {base n n' : Nat} {e e' : TypeId} {size size' : Nat} {v v' : Value} {xs xs' : List Value}
theorem own_slice (h : w.ownsRow base e size v n xs) : ∃ A c, v = .slice A n c := by
  rcases h.2 with ⟨h1, h0⟩ | ⟨g, cap, cur, hv, _⟩
  · subst h0; exact ⟨_, _, h1⟩
  · exact ⟨_, _, hv⟩
theorem own_below (h : w.ownsRow base e size v n xs) (hb : Below w.heap.size w w') : w'.ownsRow base e size v n xs := by
  have hg : w.grownBy w' none := ⟨hb.os, hb.tape, hb.output, hb.size, fun i hi _ => hb.block i hi⟩
  refine h.kept hg ?_
  cases hv : v.ownBlock with
  | none => exact .inl rfl
  | some k => exact .inr (by intro e; cases e)
/-- an append onto an owned row turns nothing that lay below its base -/
theorem below_own {w0 : World} (hb : Below base w0 w) (h : w.ownsRow base e size v n xs) (hB : base ≤ w.heap.size) (hg : w.grownBy w' v.ownBlock) : Below base w0 w' :=
  hb.grown hg hB (fun k hk => (h.lt k hk).1)
end
theorem add_zero_block (g j : Nat) : (Addr.mk g 0 none).add j = ⟨g, j, none⟩ := by
  unfold Addr.add
  split
  · rename_i hj; subst hj; rfl
  · simp
theorem below_drewN {B : Nat} {a w : World} (h : Below B a w) (n : Nat) : Below B a (w.drewN n) := ⟨h.os, h.tape, h.output, h.size, h.block⟩
/-- one cell that lies in a new block -/
theorem cell_new (w : World) (t : TypeId) (u : Value) : ∀ j x, [u][j]? = some x → (w.alloc (.cells #[u] t)).cell? ((Addr.mk w.heap.size 0 none).add j) = some x := by
  intro j x hx
  rw [add_zero_block, (Blk.fresh w t #[u]).cell]
  rw [← hx]
  simp
end Go.Proofs.Ytnhhcjeoalldkaa.Mm
namespace Go.Proofs.Ytnhhcjeoalldkaa.Fl
open Go.RowKit Go.Proofs.Ytnhhcjeoalldkaa.Bt

end Go.Proofs.Ytnhhcjeoalldkaa.Fl
namespace Go.Proofs.Ytnhhcjeoalldkaa.Fl
open Go.RowKit Go.Proofs.Ytnhhcjeoalldkaa.Bt Go.Proofs.Ytnhhcjeoalldkaa.Mm

end Go.Proofs.Ytnhhcjeoalldkaa.Fl
namespace Go.Proofs.Ytnhhcjeoalldkaa.Fl
open Go.RowKit Go.Proofs.Ytnhhcjeoalldkaa.Bt Go.Proofs.Ytnhhcjeoalldkaa.Mm

end Go.Proofs.Ytnhhcjeoalldkaa.Fl
namespace Go.Proofs.Ytnhhcjeoalldkaa.Fl
open Go.RowKit Go.Proofs.Ytnhhcjeoalldkaa.Bt Go.Proofs.Ytnhhcjeoalldkaa.Mm

def ints (zs : List Int) : List Value := zs.map (Value.int .i64)
theorem length_ints (zs : List Int) : (ints zs).length = zs.length := by simp [ints]
theorem get_ints (zs : List Int) (k : Nat) (h : k < zs.length) : (ints zs)[k]? = some (.int .i64 zs[k]) := by simp [ints, h]
end Go.Proofs.Ytnhhcjeoalldkaa.Fl
namespace Go.Proofs.Ytnhhcjeoalldkaa.Fl
open Go.RowKit Go.Proofs.Ytnhhcjeoalldkaa.Bt Go.Proofs.Ytnhhcjeoalldkaa.Mm

end Go.Proofs.Ytnhhcjeoalldkaa.Fl
namespace Go.Proofs.Ytnhhcjeoalldkaa.Bt
open Go.Proofs.Ytnhhcjeoalldkaa.Fl

end Go.Proofs.Ytnhhcjeoalldkaa.Bt

namespace Go.Proofs.Ytnhhcjeoalldkaa.Rf
open Go.RowKit Go.Proofs.Ytnhhcjeoalldkaa.Bt Go.Proofs.Ytnhhcjeoalldkaa.Mm Go.Proofs.Ytnhhcjeoalldkaa.Fl

theorem info_int : (Try.prog.info? 3).map (fun i => (i.zero, i.size, i.bytes)) = some (some (.int .i64 0), 1, 8) := by kernel_rfl
end Go.Proofs.Ytnhhcjeoalldkaa.Rf
namespace Go.Proofs.Ytnhhcjeoalldkaa.Rf
open Go.RowKit Go.Proofs.Ytnhhcjeoalldkaa.Bt Go.Proofs.Ytnhhcjeoalldkaa.Mm Go.Proofs.Ytnhhcjeoalldkaa.Fl

end Go.Proofs.Ytnhhcjeoalldkaa.Rf
namespace Go.Proofs.Ytnhhcjeoalldkaa.Rf
open Go.RowKit Go.Proofs.Ytnhhcjeoalldkaa.Bt Go.Proofs.Ytnhhcjeoalldkaa.Mm Go.Proofs.Ytnhhcjeoalldkaa.Fl

end Go.Proofs.Ytnhhcjeoalldkaa.Rf

namespace Go.Proofs.Ytnhhcjeoalldkaa.Lw
open Go.RowKit Go.Proofs.Ytnhhcjeoalldkaa.Bt Go.Proofs.Ytnhhcjeoalldkaa.Mm Go.Proofs.Ytnhhcjeoalldkaa.Fl Go.Proofs.Ytnhhcjeoalldkaa.Rf

end Go.Proofs.Ytnhhcjeoalldkaa.Lw
namespace Go.Proofs.Ytnhhcjeoalldkaa.Lw
open Go.RowKit Go.Proofs.Ytnhhcjeoalldkaa.Bt Go.Proofs.Ytnhhcjeoalldkaa.Mm Go.Proofs.Ytnhhcjeoalldkaa.Fl Go.Proofs.Ytnhhcjeoalldkaa.Rf

end Go.Proofs.Ytnhhcjeoalldkaa.Lw
namespace Go.Proofs.Ytnhhcjeoalldkaa.Lw
open Go.RowKit Go.Proofs.Ytnhhcjeoalldkaa.Bt Go.Proofs.Ytnhhcjeoalldkaa.Mm Go.Proofs.Ytnhhcjeoalldkaa.Fl Go.Proofs.Ytnhhcjeoalldkaa.Rf

end Go.Proofs.Ytnhhcjeoalldkaa.Lw

namespace Go.Proofs.Ytnhhcjeoalldkaa.Tg
open Go.RowKit Go.Proofs.Ytnhhcjeoalldkaa.Bt Go.Proofs.Ytnhhcjeoalldkaa.Mm Go.Proofs.Ytnhhcjeoalldkaa.Fl Go.Proofs.Ytnhhcjeoalldkaa.Rf Go.Proofs.Ytnhhcjeoalldkaa.Lw

theorem cell_be {w w' : World} {B g k : Nat} {x : Value} (h : w.cell? ⟨g, k, none⟩ = some x) (hb : Below B w w') (hg : g < B) : w'.cell? ⟨g, k, none⟩ = some x := (hb.cell (p := ⟨g, k, none⟩) hg).trans h
end Go.Proofs.Ytnhhcjeoalldkaa.Tg
namespace Go.Proofs.Ytnhhcjeoalldkaa.Rw2
open Go.RowKit Go.Proofs.Ytnhhcjeoalldkaa.Mm Go.Proofs.Ytnhhcjeoalldkaa.Tg

theorem keep {w w' : World} {g : Nat} {x0 x1 : Value} (hb : Below w.heap.size w w') (h : g < w.heap.size ∧ w.cell? ⟨g, 0, none⟩ = some x0 ∧ w.cell? ⟨g, 1, none⟩ = some x1) : g < w'.heap.size ∧ w'.cell? ⟨g, 0, none⟩ = some x0 ∧ w'.cell? ⟨g, 1, none⟩ = some x1 := by
  obtain ⟨hg, h0, h1⟩ := h
  exact ⟨Nat.lt_of_lt_of_le hg hb.size, cell_be h0 hb hg, cell_be h1 hb hg⟩
theorem fresh (w : World) (t : TypeId) (x0 x1 : Value) : w.heap.size < (w.alloc (.cells #[x0, x1] t)).heap.size ∧ (w.alloc (.cells #[x0, x1] t)).cell? ⟨w.heap.size, 0, none⟩ = some x0 ∧ (w.alloc (.cells #[x0, x1] t)).cell? ⟨w.heap.size, 1, none⟩ = some x1 := by
  have h := Blk.fresh w t #[x0, x1]
  exact ⟨h.lt, h.cell 0, h.cell 1⟩
/-- 2 cells written, one after the other -/
abbrev set (w : World) (g : Nat) (x0 x1 : Value) : World := ((w.setCell ⟨g, 0, none⟩ x0).setCell ⟨g, 1, none⟩ x1)
structure Row (w : World) (g : Nat) (x0 x1 : Value) : Prop where
  c0 : w.cell? ⟨g, 0, none⟩ = some x0
  c1 : w.cell? ⟨g, 1, none⟩ = some x1
  z0 : w.frozen? ⟨g, 0, none⟩ = false
  z1 : w.frozen? ⟨g, 1, none⟩ = false
theorem row {w : World} {g : Nat} {t : TypeId} {x0 x1 : Value} (h : Blk w g t #[x0, x1]) : Row w g x0 x1 := ⟨h.cell 0, h.cell 1, h.frozen 0, h.frozen 1⟩
end Go.Proofs.Ytnhhcjeoalldkaa.Rw2
namespace Go.Proofs.Ytnhhcjeoalldkaa.Rw3
open Go.RowKit Go.Proofs.Ytnhhcjeoalldkaa.Mm Go.Proofs.Ytnhhcjeoalldkaa.Tg

theorem keep {w w' : World} {g : Nat} {x0 x1 x2 : Value} (hb : Below w.heap.size w w') (h : g < w.heap.size ∧ w.cell? ⟨g, 0, none⟩ = some x0 ∧ w.cell? ⟨g, 1, none⟩ = some x1 ∧ w.cell? ⟨g, 2, none⟩ = some x2) : g < w'.heap.size ∧ w'.cell? ⟨g, 0, none⟩ = some x0 ∧ w'.cell? ⟨g, 1, none⟩ = some x1 ∧ w'.cell? ⟨g, 2, none⟩ = some x2 := by
  obtain ⟨hg, h0, h1, h2⟩ := h
  exact ⟨Nat.lt_of_lt_of_le hg hb.size, cell_be h0 hb hg, cell_be h1 hb hg, cell_be h2 hb hg⟩
theorem fresh (w : World) (t : TypeId) (x0 x1 x2 : Value) : w.heap.size < (w.alloc (.cells #[x0, x1, x2] t)).heap.size ∧ (w.alloc (.cells #[x0, x1, x2] t)).cell? ⟨w.heap.size, 0, none⟩ = some x0 ∧ (w.alloc (.cells #[x0, x1, x2] t)).cell? ⟨w.heap.size, 1, none⟩ = some x1 ∧ (w.alloc (.cells #[x0, x1, x2] t)).cell? ⟨w.heap.size, 2, none⟩ = some x2 := by
  have h := Blk.fresh w t #[x0, x1, x2]
  exact ⟨h.lt, h.cell 0, h.cell 1, h.cell 2⟩
/-- 3 cells written, one after the other -/
abbrev set (w : World) (g : Nat) (x0 x1 x2 : Value) : World := (((w.setCell ⟨g, 0, none⟩ x0).setCell ⟨g, 1, none⟩ x1).setCell ⟨g, 2, none⟩ x2)
structure Row (w : World) (g : Nat) (x0 x1 x2 : Value) : Prop where
  c0 : w.cell? ⟨g, 0, none⟩ = some x0
  c1 : w.cell? ⟨g, 1, none⟩ = some x1
  c2 : w.cell? ⟨g, 2, none⟩ = some x2
  z0 : w.frozen? ⟨g, 0, none⟩ = false
  z1 : w.frozen? ⟨g, 1, none⟩ = false
  z2 : w.frozen? ⟨g, 2, none⟩ = false
theorem row {w : World} {g : Nat} {t : TypeId} {x0 x1 x2 : Value} (h : Blk w g t #[x0, x1, x2]) : Row w g x0 x1 x2 := ⟨h.cell 0, h.cell 1, h.cell 2, h.frozen 0, h.frozen 1, h.frozen 2⟩
end Go.Proofs.Ytnhhcjeoalldkaa.Rw3
namespace Go.Proofs.Ytnhhcjeoalldkaa.Rw5
open Go.RowKit Go.Proofs.Ytnhhcjeoalldkaa.Mm Go.Proofs.Ytnhhcjeoalldkaa.Tg

theorem keep {w w' : World} {g : Nat} {x0 x1 x2 x3 x4 : Value} (hb : Below w.heap.size w w') (h : g < w.heap.size ∧ w.cell? ⟨g, 0, none⟩ = some x0 ∧ w.cell? ⟨g, 1, none⟩ = some x1 ∧ w.cell? ⟨g, 2, none⟩ = some x2 ∧ w.cell? ⟨g, 3, none⟩ = some x3 ∧ w.cell? ⟨g, 4, none⟩ = some x4) : g < w'.heap.size ∧ w'.cell? ⟨g, 0, none⟩ = some x0 ∧ w'.cell? ⟨g, 1, none⟩ = some x1 ∧ w'.cell? ⟨g, 2, none⟩ = some x2 ∧ w'.cell? ⟨g, 3, none⟩ = some x3 ∧ w'.cell? ⟨g, 4, none⟩ = some x4 := by
  obtain ⟨hg, h0, h1, h2, h3, h4⟩ := h
  exact ⟨Nat.lt_of_lt_of_le hg hb.size, cell_be h0 hb hg, cell_be h1 hb hg, cell_be h2 hb hg, cell_be h3 hb hg, cell_be h4 hb hg⟩
theorem fresh (w : World) (t : TypeId) (x0 x1 x2 x3 x4 : Value) : w.heap.size < (w.alloc (.cells #[x0, x1, x2, x3, x4] t)).heap.size ∧ (w.alloc (.cells #[x0, x1, x2, x3, x4] t)).cell? ⟨w.heap.size, 0, none⟩ = some x0 ∧ (w.alloc (.cells #[x0, x1, x2, x3, x4] t)).cell? ⟨w.heap.size, 1, none⟩ = some x1 ∧ (w.alloc (.cells #[x0, x1, x2, x3, x4] t)).cell? ⟨w.heap.size, 2, none⟩ = some x2 ∧ (w.alloc (.cells #[x0, x1, x2, x3, x4] t)).cell? ⟨w.heap.size, 3, none⟩ = some x3 ∧ (w.alloc (.cells #[x0, x1, x2, x3, x4] t)).cell? ⟨w.heap.size, 4, none⟩ = some x4 := by
  have h := Blk.fresh w t #[x0, x1, x2, x3, x4]
  exact ⟨h.lt, h.cell 0, h.cell 1, h.cell 2, h.cell 3, h.cell 4⟩
/-- 5 cells written, one after the other -/
abbrev set (w : World) (g : Nat) (x0 x1 x2 x3 x4 : Value) : World := (((((w.setCell ⟨g, 0, none⟩ x0).setCell ⟨g, 1, none⟩ x1).setCell ⟨g, 2, none⟩ x2).setCell ⟨g, 3, none⟩ x3).setCell ⟨g, 4, none⟩ x4)
structure Row (w : World) (g : Nat) (x0 x1 x2 x3 x4 : Value) : Prop where
  c0 : w.cell? ⟨g, 0, none⟩ = some x0
  c1 : w.cell? ⟨g, 1, none⟩ = some x1
  c2 : w.cell? ⟨g, 2, none⟩ = some x2
  c3 : w.cell? ⟨g, 3, none⟩ = some x3
  c4 : w.cell? ⟨g, 4, none⟩ = some x4
  z0 : w.frozen? ⟨g, 0, none⟩ = false
  z1 : w.frozen? ⟨g, 1, none⟩ = false
  z2 : w.frozen? ⟨g, 2, none⟩ = false
  z3 : w.frozen? ⟨g, 3, none⟩ = false
  z4 : w.frozen? ⟨g, 4, none⟩ = false
theorem row {w : World} {g : Nat} {t : TypeId} {x0 x1 x2 x3 x4 : Value} (h : Blk w g t #[x0, x1, x2, x3, x4]) : Row w g x0 x1 x2 x3 x4 := ⟨h.cell 0, h.cell 1, h.cell 2, h.cell 3, h.cell 4, h.frozen 0, h.frozen 1, h.frozen 2, h.frozen 3, h.frozen 4⟩
end Go.Proofs.Ytnhhcjeoalldkaa.Rw5

namespace Go.Proofs.Ytnhhcjeoalldkaa.Rg
open Go.RowKit Go.Proofs.Ytnhhcjeoalldkaa.Bt Go.Proofs.Ytnhhcjeoalldkaa.Mm Go.Proofs.Ytnhhcjeoalldkaa.Tg

theorem more {P : Program} {ops : Array Oper} {Q : Exit → Act → World → Prop} {md : Region.Mode} {S S' : World → Prop} (h : ∀ w, S' w → S w) :
    ∀ (fuel : Nat) (listed : Array Bool) (a : Act) (w : World), wpAnyH P md ops Q S' fuel listed a w → wpAnyH P md ops Q S fuel listed a w
  | 0, _, _, _, h' => h'
  | fuel + 1, _, _, _, h' => ⟨h'.1, fun i hi => wpOp_mono (fun a' w' h2 => ⟨h _ h2.1, more h fuel _ a' w' h2.2⟩) (h'.2 i hi)⟩
/-- what stays where memory is only made -/
def Keeps (S : World → Prop) : Prop := ∀ w w', S w → Below w.heap.size w w' → S w'
theorem Keeps.and {S T : World → Prop} (h : Keeps S) (h2 : Keeps T) : Keeps (fun w => S w ∧ T w) := fun w w' hs hb => ⟨h w w' hs.1 hb, h2 w w' hs.2 hb⟩
theorem Keeps.one (g : Nat) (t : TypeId) (cs : Array Value) : Keeps (fun w => Blk w g t cs) := fun _ _ hs hb => hs.below hb hs.lt
theorem Keeps.all : Keeps (fun _ => True) := fun _ _ _ _ => trivial
section
variable {P : Program} {ops : Array Oper} {Q : Exit → Act → World → Prop} {md : Region.Mode} {S : World → Prop} {fuel : Nat} {listed : Array Bool} {a : Act} {w w0 w' : World} {K : Act → World → Prop}
/-- a call that only makes memory -/
theorem st_call (hK : Shut (∀ a w, S w → (S w → wpAnyH P md ops Q S fuel listed a w) → K a w)) (hS : S w) (KS : Keeps S) (hB : Below w0.heap.size w0 w) (hb : Below w.heap.size w w')
    (h : S w' → Below w0.heap.size w0 w' → wpAnyH P md ops Q S fuel listed a w') : K a w' :=
  hK.out _ _ (KS _ _ hS hb) (fun hS' => h hS' (hB.trans (hb.mono hB.size)))
end
section
variable {P : Program} {ops : Array Oper} {Q : Exit → Act → World → Prop} {md : Region.Mode} {S : World → Prop} {fuel : Nat} {listed : Array Bool} {a : Act} {w : World}
/-- an operation that only reads is taken first -/
theorem tk (i : Nat) {oi : Oper} {v : Value} (hy : ∀ wx, S wx → (execOp a.eval oi).run P wx = .ok (.value v) wx) (h : wpAnyH P md ops Q S fuel (listed.setIfInBounds i true) (a.put oi.dst v) w)
    (hi : ops[i]? = some oi := by rfl) (hs : Region.noSelect ops = true := by kernel_rfl) (hf : Region.free md ops listed i = true := by kernel_rfl) (hr : (Region.ready md ops listed).contains i = true := by kernel_rfl)
    (hQ : ∀ c a w, Q (.panic c) (a.put oi.dst v) w → Q (.panic c) a w := by exact fun _ _ _ h => h) (hw : Region.wanted oi (yielded ops a.tmps) = true := by rfl) (hS : S w := by assumption) : wpAnyH P md ops Q S (fuel + 1) listed a w :=
  wpAnyH_take hi hs hf hr hQ (.inl ⟨hw, hy⟩) hS h
/-- an operation that its guard leaves out -/
theorem sk (i : Nat) {oi : Oper} (h : wpAnyH P md ops Q S fuel (listed.setIfInBounds i true) (a.put oi.dst undef) w)
    (hi : ops[i]? = some oi := by rfl) (hs : Region.noSelect ops = true := by kernel_rfl) (hf : Region.free md ops listed i = true := by kernel_rfl) (hr : (Region.ready md ops listed).contains i = true := by kernel_rfl)
    (hQ : ∀ c a w, Q (.panic c) (a.put oi.dst undef) w → Q (.panic c) a w := by exact fun _ _ _ h => h) (hw : Region.wanted oi (yielded ops a.tmps) = false := by rfl) (hS : S w := by assumption) : wpAnyH P md ops Q S (fuel + 1) listed a w :=
  wpAnyH_take hi hs hf hr hQ (.inr ⟨hw, rfl⟩) hS h
end
theorem e1 {α : Type} (l : List α) (i : Nat) (a : α) : l.toArray.setIfInBounds i a = (l.set i a).toArray := List.setIfInBounds_toArray ..
theorem e2 {α : Type} (l : List α) (a b : α) : (a :: l).set 0 b = b :: l := rfl
theorem e3 {α : Type} (l : List α) (a b : α) (n : Nat) : (a :: l).set (n + 1) b = a :: l.set n b := rfl
theorem e4 {α : Type} (l : List α) (i : Nat) (h : i < l.toArray.size) : l.toArray[i] = l[i]'(by simpa using h) := rfl
theorem e5 {α : Type} (l : List α) (a : α) (h : 0 < (a :: l).length) : (a :: l)[0] = a := rfl
theorem e6 {α : Type} (l : List α) (a : α) (n : Nat) (h : n + 1 < (a :: l).length) : (a :: l)[n + 1] = l[n]'(Nat.lt_of_succ_lt_succ h) := rfl
end Go.Proofs.Ytnhhcjeoalldkaa.Rg

namespace Go.Proofs.Ytnhhcjeoalldkaa.Op
open Go.ChangeShapes Go.WideShapes Go.ChangeAt Go.RowKit Go.Deep
open Go.Proofs.Ytnhhcjeoalldkaa.Mm Go.Proofs.Ytnhhcjeoalldkaa.Fl

theorem own : ownKnob Try.prog.godebug = none := by kernel_rfl
theorem laidOut : laidOutB Try.prog = true := by kernel_rfl

end Go.Proofs.Ytnhhcjeoalldkaa.Op

