/-
  Plain: steps of a walk through a region that draws its order: what is known of the world grows on the way.
-/
import Derived.Test.YtphndajaehofoaaDoorGen
import Derived.Deep.RegionHeld3
namespace Go.Proofs.YtphndajaehofoaaDoor.Rg
open Go.RowKit Go.Proofs.YtphndajaehofoaaDoor.Bt Go.Proofs.YtphndajaehofoaaDoor.Mm Go.Proofs.YtphndajaehofoaaDoor.Tg

theorem more {P : Program} {ops : Array Oper} {Q : Exit → Act → World → Prop} {md : Region.Mode} {S S' : World → Prop} (h : ∀ w, S' w → S w) :
    ∀ (fuel : Nat) (listed : Array Bool) (a : Act) (w : World), wpAnyH P md ops Q S' fuel listed a w → wpAnyH P md ops Q S fuel listed a w
  | 0, _, _, _, h' => h'
  | fuel + 1, _, _, _, h' => ⟨h'.1, fun i hi => wpOp_mono (fun a' w' h2 => ⟨h _ h2.1, more h fuel _ a' w' h2.2⟩) (h'.2 i hi)⟩
/-- what stays where memory is only made -/
def Keeps (S : World → Prop) : Prop := ∀ w w', S w → Below w.heap.size w w' → S w'
theorem Keeps.blk {S : World → Prop} (h : Keeps S) (g : Nat) (t : TypeId) (cs : Array Value) : Keeps (fun w => S w ∧ Blk w g t cs) :=
  fun w w' hs hb => ⟨h w w' hs.1 hb, hs.2.below hb hs.2.lt⟩
theorem Keeps.and {S T : World → Prop} (h : Keeps S) (h2 : Keeps T) : Keeps (fun w => S w ∧ T w) := fun w w' hs hb => ⟨h w w' hs.1 hb, h2 w w' hs.2 hb⟩
theorem Keeps.one (g : Nat) (t : TypeId) (cs : Array Value) : Keeps (fun w => Blk w g t cs) := fun _ _ hs hb => hs.below hb hs.lt
theorem Keeps.all : Keeps (fun _ => True) := fun _ _ _ _ => trivial
section
variable {P : Program} {ops : Array Oper} {Q : Exit → Act → World → Prop} {md : Region.Mode} {S : World → Prop} {fuel : Nat} {listed : Array Bool} {a : Act} {w w0 w' : World} {K : Act → World → Prop}
/-- a block is made: it is known from now on -/
theorem st_alloc {cs : Array Value} {t : TypeId} (hK : Shut (∀ a w, S w → (S w → wpAnyH P md ops Q S fuel listed a w) → K a w)) (hS : S w) (KS : Keeps S) (hB : Below w0.heap.size w0 w)
    (h : ∀ w', w.heap.size < w'.heap.size → (S w' ∧ Blk w' w.heap.size t cs) → Keeps (fun wx => S wx ∧ Blk wx w.heap.size t cs) → Below w0.heap.size w0 w' → wpAnyH P md ops Q (fun wx => S wx ∧ Blk wx w.heap.size t cs) fuel listed a w') : K a (w.alloc (.cells cs t)) := by
  have hb : Below w.heap.size w (w.alloc (.cells cs t)) := (Below.refl _ _).alloc (Nat.le_refl _) _
  refine hK.out _ _ (KS _ _ hS hb) (fun hS' => more (fun _ h => h.1) _ _ _ _ (h _ (by simp) ⟨hS', Blk.fresh _ _ _⟩ (KS.blk _ _ _) (hB.trans (hb.mono hB.size))))
/-- a block is made, into which the region writes -/
theorem st_mk {cs : Array Value} {t : TypeId} (hK : Shut (∀ a w, S w → (S w → wpAnyH P md ops Q S fuel listed a w) → K a w)) (hS : S w) (KS : Keeps S) (hB : Below w0.heap.size w0 w)
    (h : ∀ w', w.heap.size < w'.heap.size → S w' → Blk w' w.heap.size t cs → Below w0.heap.size w0 w' → wpAnyH P md ops Q S fuel listed a w') : K a (w.alloc (.cells cs t)) := by
  have hb : Below w.heap.size w (w.alloc (.cells cs t)) := (Below.refl _ _).alloc (Nat.le_refl _) _
  exact hK.out _ _ (KS _ _ hS hb) (fun hS' => h _ (by simp) hS' (Blk.fresh _ _ _) (hB.trans (hb.mono hB.size)))
/-- a call that only makes memory -/
theorem st_call (hK : Shut (∀ a w, S w → (S w → wpAnyH P md ops Q S fuel listed a w) → K a w)) (hS : S w) (KS : Keeps S) (hB : Below w0.heap.size w0 w) (hb : Below w.heap.size w w')
    (h : S w' → Below w0.heap.size w0 w' → wpAnyH P md ops Q S fuel listed a w') : K a w' :=
  hK.out _ _ (KS _ _ hS hb) (fun hS' => h hS' (hB.trans (hb.mono hB.size)))
/-- a store into a block that is known: the condition without that block, then with the new cells -/
theorem st_same (hK : Shut (∀ a w, S w → (S w → wpAnyH P md ops Q S fuel listed a w) → K a w)) (hS : S w') (h : S w' → wpAnyH P md ops Q S fuel listed a w') : K a w' := hK.out _ _ hS h
end
section
variable {P : Program} {ops : Array Oper} {Q : Exit → Act → World → Prop} {md : Region.Mode} {S : World → Prop} {fuel : Nat} {listed : Array Bool} {a : Act} {w : World}
/-- an operation that only reads is taken first -/
theorem tk (i : Nat) {oi : Oper} {v : Value} (hy : ∀ wx, S wx → (execOp a.eval oi).run P wx = .ok (.value v) wx) (h : wpAnyH P md ops Q S fuel (listed.setIfInBounds i true) (a.put oi.dst v) w)
    (hi : ops[i]? = some oi := by rfl) (hs : Region.noSelect ops = true := by kernel_rfl) (hf : Region.free md ops listed i = true := by kernel_rfl) (hr : (Region.ready md ops listed).contains i = true := by kernel_rfl)
    (hQ : ∀ c a w, Q (.panic c) (a.put oi.dst v) w → Q (.panic c) a w := by exact fun _ _ _ h => h) (hw : Region.wanted oi (yielded ops a.tmps) = true := by rfl) (hS : S w := by assumption) : wpAnyH P md ops Q S (fuel + 1) listed a w :=
  wpAnyH_take hi hs hf hr hQ (.inl ⟨hw, hy⟩) hS h
/-- an operation that its guard leaves out -/
theorem sk (i : Nat) {oi : Oper} (h : wpAnyH P md ops Q S fuel (listed.setIfInBounds i true) (a.put oi.dst undef) w)
    (hi : ops[i]? = some oi := by rfl) (hs : Region.noSelect ops = true := by kernel_rfl) (hf : Region.free md ops listed i = true := by kernel_rfl) (hr : (Region.ready md ops listed).contains i = true := by kernel_rfl)
    (hQ : ∀ c a w, Q (.panic c) (a.put oi.dst undef) w → Q (.panic c) a w := by exact fun _ _ _ h => h) (hw : Region.wanted oi (yielded ops a.tmps) = false := by rfl) (hS : S w := by assumption) : wpAnyH P md ops Q S (fuel + 1) listed a w :=
  wpAnyH_take hi hs hf hr hQ (.inr ⟨hw, rfl⟩) hS h
end
theorem e1 {α : Type} (l : List α) (i : Nat) (a : α) : l.toArray.setIfInBounds i a = (l.set i a).toArray := List.setIfInBounds_toArray ..
theorem e2 {α : Type} (l : List α) (a b : α) : (a :: l).set 0 b = b :: l := rfl
theorem e3 {α : Type} (l : List α) (a b : α) (n : Nat) : (a :: l).set (n + 1) b = a :: l.set n b := rfl
theorem e4 {α : Type} (l : List α) (i : Nat) (h : i < l.toArray.size) : l.toArray[i] = l[i]'(by simpa using h) := rfl
theorem e5 {α : Type} (l : List α) (a : α) (h : 0 < (a :: l).length) : (a :: l)[0] = a := rfl
theorem e6 {α : Type} (l : List α) (a : α) (n : Nat) (h : n + 1 < (a :: l).length) : (a :: l)[n + 1] = l[n]'(Nat.lt_of_succ_lt_succ h) := rfl
/-- 'string(b)' of a block that is known -/
theorem back_blk {P : Program} {src dst e : TypeId} {w : World} {g : Nat} {cs : Array Value} (s : ByteArray) (l : List UInt8) (n c : Nat) (h : Blk w g e cs) (hcs : cs.toList = byteVals l) (hn : l.length = n) (hsl : (⟨l.toArray⟩ : ByteArray) = s) (hs : P.underlying src = some (.slice e)) (he : P.underlying e = some (.int .u8)) (hd : P.underlying dst = some .string) :
    (convert src dst (.slice (some ⟨g, 0, none⟩) n c)).run P w = .ok (.string s) w := by
  subst hn hsl
  refine run_convert_bytes_back (P := P) _ src dst e ⟨g, 0, none⟩ c l hs he hd (fun j hj => ?_)
  rw [add_zero_block, h.cell, ← Array.getElem?_toList, hcs]
  simp [byteVals, hj]
end Go.Proofs.YtphndajaehofoaaDoor.Rg
