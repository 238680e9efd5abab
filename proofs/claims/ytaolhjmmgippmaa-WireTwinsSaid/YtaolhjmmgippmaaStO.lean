/-
  Arguments, opened: a slice of texts.
-/
import Derived.Test.YtaolhjmmgippmaaOpen
namespace Go.Proofs.Ytaolhjmmgippmaa.Op
open Go.ChangeShapes Go.WideShapes Go.ChangeAt Go.RowKit Go.Deep
open Go.Proofs.Ytaolhjmmgippmaa.Mm Go.Proofs.Ytaolhjmmgippmaa.Fl
section
variable {H : Type} {enc : TypeId × Value → H} {P : Program} {W : World}
theorem open_texts {t e : TypeId} {A : Option Addr} {len cap : Nat} {d : DataW H} {p : List MemPlace} (ht : P.underlying t = some (.slice e)) (he : P.underlying e = some .string) (hC : P.cellsOf e = 1)
    (h : DataW.Trod enc P W 0 (fun _ => true) true t (.slice A len cap) d p) :
    ∃ L : List ByteArray, L.length = len ∧ L.length ≤ maxLen ∧ Rd W W.heap.size A (L.map Value.string) ∧ ∀ s ∈ L, s.size ≤ maxLen := by
  obtain ⟨fuel, hf⟩ := h
  rcases open_slice ht hf with ⟨hcs, _⟩ | ⟨a, len', cap', m, n, D, Pl, hcs, _, hl, hm, hmm, _, hel⟩
  · simp [Value.cells] at hcs
    obtain ⟨rfl, rfl, rfl⟩ := hcs
    exact ⟨[], rfl, by simp [maxLen], Rd.none _ _ _, fun q hq => by cases hq⟩
  · simp [Value.cells] at hcs
    obtain ⟨rfl, rfl, rfl⟩ := hcs
    simp only [if_true] at hmm
    subst hmm
    obtain ⟨L, hlen, hps⟩ := build_list len (fun i (q : ByteArray) => W.cell? (a.add i) = some (.string q) ∧ q.size ≤ maxLen) (fun i hi' => by
      obtain ⟨cs', hc, ht'⟩ := hel i (by omega)
      rw [hC] at hc
      obtain ⟨s, rfl, _, hs⟩ := DataW.trod_string he ht'
      obtain ⟨_, _, hat⟩ := World.cells?_some hc
      refine ⟨s, ?_, hs⟩
      have := hat 0 (by simp)
      simpa [Addr.add] using this)
    refine ⟨L, hlen, by omega, fun hn => ?_, fun q hq => ?_⟩
    · rw [List.length_map] at hn
      refine ⟨a, rfl, ?_, fun j u hu => ?_⟩
      · have := lt_of_cell (hps 0 (by omega)).1
        rwa [Mm.block_add] at this
      · have hj : j < L.length := by
          have := (List.getElem?_eq_some_iff.1 hu).1
          rwa [List.length_map] at this
        rw [(hps j hj).1, ← hu]
        simp [hj]
    · obtain ⟨i, hi', rfl⟩ := List.getElem_of_mem hq
      exact (hps i hi').2
end
end Go.Proofs.Ytaolhjmmgippmaa.Op
