/-
  Arguments, opened: a slice of bytes as numbers.
-/
import Derived.Test.YtfbocejpmmhleaaDoorROpen
namespace Go.Proofs.YtfbocejpmmhleaaDoorR.Op
open Go.ChangeShapes Go.WideShapes Go.ChangeAt Go.RowKit Go.Deep
open Go.Proofs.YtfbocejpmmhleaaDoorR.Mm Go.Proofs.YtfbocejpmmhleaaDoorR.Fl
section
variable {H : Type} {enc : TypeId × Value → H} {P : Program} {W : World}
theorem open_u8s {t e : TypeId} {A : Option Addr} {len cap : Nat} {d : DataW H} {p : List MemPlace} (ht : P.underlying t = some (.slice e)) (he : P.underlying e = some (.int .u8)) (hC : P.cellsOf e = 1)
    (h : DataW.Trod enc P W 0 (fun _ => true) true t (.slice A len cap) d p) :
    ∃ zs : List Nat, zs.length = len ∧ zs.length ≤ maxLen ∧ Rd W W.heap.size A (nums .u8 zs) ∧ ∀ z ∈ zs, z < 256 := by
  obtain ⟨fuel, hf⟩ := h
  rcases open_ints ht he hC hf with ⟨hcs, _⟩ | ⟨x, l, c, zs, hcs, _, hl, hm, hz, _, hcell, hwz⟩
  · simp [Value.cells] at hcs
    obtain ⟨rfl, rfl, rfl⟩ := hcs
    exact ⟨[], rfl, by simp [maxLen], Rd.none _ _ _, fun q hq => by cases hq⟩
  · simp [Value.cells] at hcs
    obtain ⟨rfl, rfl, rfl⟩ := hcs
    have hz' : zs.length = cap := by simpa using hz
    obtain ⟨ns, hn1, hn2⟩ := build_list len (fun i (n : Nat) => zs.getD i 0 = (n : Int) ∧ n < 256) (fun i hi => by
      have hi' : i < zs.length := by omega
      obtain ⟨n, hn, hn2⟩ := u8_of (hwz _ (List.getElem_mem hi'))
      exact ⟨n, by simp [List.getD_eq_getElem?_getD, hi', hn], hn2⟩)
    refine ⟨ns, hn1, by omega, fun hn => ?_, fun z hq => ?_⟩
    · rw [length_nums, hn1] at hn
      refine ⟨x, rfl, ?_, fun j u hu => ?_⟩
      · have := lt_of_cell (hcell 0 (by omega))
        rwa [Mm.block_add] at this
      · have hj : j < ns.length := by
          have := (List.getElem?_eq_some_iff.1 hu).1
          rwa [length_nums] at this
        rw [hcell j (by omega), ← hu, get_nums _ _ _ hj, (hn2 j hj).1]
        simp [hj]
    · obtain ⟨i, hi', rfl⟩ := List.getElem_of_mem hq
      exact (hn2 i hi').2
end
end Go.Proofs.YtfbocejpmmhleaaDoorR.Op
