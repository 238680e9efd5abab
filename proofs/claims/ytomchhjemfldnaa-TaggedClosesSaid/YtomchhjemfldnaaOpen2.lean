/-
  Arguments that are structs of one-cell fields, by value: opened field by field; a frame.
-/
import Derived.Test.YtomchhjemfldnaaOpen
import Derived.Test.YtomchhjemfldnaaTag2
namespace Go.Proofs.Ytomchhjemfldnaa.Op
open Go.ChangeShapes Go.WideShapes Go.ChangeAt Go.RowKit Go.Deep
open Go.Proofs.Ytomchhjemfldnaa.Mm Go.Proofs.Ytomchhjemfldnaa.Fl

section
variable {H : Type} {enc : TypeId × Value → H} {P : Program} {W : World}
theorem fields_of {r : Reach} {b0 : Nat} {t : TypeId} {fs : Array Field} {v : Value} {d : DataW H} {p : List MemPlace} (hs : P.underlying t = some (.struct fs)) (hone : oneCellFields P fs = true) (hC : P.cellsOf t = fs.size)
    (hv : Value.okWide P W r b0 t v) (h : DataW.Trod enc P W 0 (fun _ => true) true t v d p) :
    ∃ (cs : Array Value) (n : Nat), v = .agg cs ∧ cs.size = fs.size ∧ ∀ (i : Nat) (f : Field), fs[i]? = some f → ∃ u y, cs[i]? = some u ∧ DataW.trod enc P W 0 (fun _ => true) true n f.type [u] = some y := by
  obtain ⟨cs, rfl, hsz⟩ := okWide_struct hs hv
  obtain ⟨fuel, hf⟩ := h
  obtain ⟨xs, n, _, _, _, hlen, hg⟩ := DataW.trod_struct hs hf
  refine ⟨cs, n, rfl, hsz.trans hC, fun i f hi => ?_⟩
  obtain ⟨o, k⟩ := hone_of hone i f hi
  have hil : i < fs.size := (Array.getElem?_eq_some_iff.1 hi).1
  have hic : i < cs.size := by omega
  have h1 := hg i f hi
  rw [o, k] at h1
  have e : (((Value.agg cs).cells.toList).drop i).take 1 = [cs[i]] := by
    show (cs.toList.drop i).take 1 = [cs[i]]
    rw [List.drop_eq_getElem_cons (by simpa using hic)]
    simp
  rw [e] at h1
  refine ⟨cs[i], xs[i]'(by omega), by simp [hic], ?_⟩
  rw [h1]
  simp [hlen, hil]
theorem int_at {t : TypeId} {k : IntKind} {n : Nat} {u : Value} {y : DataW H × List MemPlace} (ht : P.underlying t = some (.int k)) (h : DataW.trod enc P W 0 (fun _ => true) true n t [u] = some y) : ∃ a, u = .int k a ∧ (Lit.int k a).wf = true := by
  obtain ⟨a, q, _, hw⟩ := DataW.trod_int ht h
  simp at q
  exact ⟨a, q, hw⟩
theorem bool_at {t : TypeId} {n : Nat} {u : Value} {y : DataW H × List MemPlace} (ht : P.underlying t = some .bool) (h : DataW.trod enc P W 0 (fun _ => true) true n t [u] = some y) : ∃ a, u = .bool a := by
  obtain ⟨a, q, _⟩ := DataW.trod_bool ht h
  simp at q
  exact ⟨a, q⟩
theorem str_at {t : TypeId} {n : Nat} {u : Value} {y : DataW H × List MemPlace} (ht : P.underlying t = some .string) (h : DataW.trod enc P W 0 (fun _ => true) true n t [u] = some y) : ∃ s : ByteArray, u = .string s ∧ s.size ≤ maxLen := by
  obtain ⟨a, q, _, hs⟩ := DataW.trod_string ht h
  simp at q
  exact ⟨a, q, hs⟩
end
theorem u64_of {a : Int} (h : (Lit.int .u64 a).wf = true) : ∃ n : Nat, a = n ∧ n < 18446744073709551616 := by
  have b : 0 ≤ a ∧ a ≤ 18446744073709551615 := by simpa [Lit.wf, IntKind.min, IntKind.max, IntKind.signed, IntKind.bits] using h
  obtain ⟨n, rfl⟩ := Int.eq_ofNat_of_zero_le b.1
  exact ⟨n, rfl, by omega⟩
theorem u16_of {a : Int} (h : (Lit.int .u16 a).wf = true) : ∃ n : Nat, a = n ∧ n < 65536 := by
  have b : 0 ≤ a ∧ a ≤ 65535 := by simpa [Lit.wf, IntKind.min, IntKind.max, IntKind.signed, IntKind.bits] using h
  obtain ⟨n, rfl⟩ := Int.eq_ofNat_of_zero_le b.1
  exact ⟨n, rfl, by omega⟩
theorem u8_of {a : Int} (h : (Lit.int .u8 a).wf = true) : ∃ n : Nat, a = n ∧ n < 256 := by
  have b : 0 ≤ a ∧ a ≤ 255 := by simpa [Lit.wf, IntKind.min, IntKind.max, IntKind.signed, IntKind.bits] using h
  obtain ⟨n, rfl⟩ := Int.eq_ofNat_of_zero_le b.1
  exact ⟨n, rfl, by omega⟩
theorem arr7 {cs : Array Value} {x0 x1 x2 x3 x4 x5 x6 : Value} (hs : cs.size = 7) (h0 : cs[0]? = some x0) (h1 : cs[1]? = some x1) (h2 : cs[2]? = some x2) (h3 : cs[3]? = some x3) (h4 : cs[4]? = some x4) (h5 : cs[5]? = some x5) (h6 : cs[6]? = some x6) : cs = #[x0, x1, x2, x3, x4, x5, x6] := by
  obtain ⟨l⟩ := cs
  match l, hs with
  | [c0, c1, c2, c3, c4, c5, c6], _ =>
    simp at h0 h1 h2 h3 h4 h5 h6
    subst h0 h1 h2 h3 h4 h5 h6
    rfl
theorem open_frame {H : Type} {enc : TypeId × Value → H} {W : World} {r : Reach} {b0 : Nat} {x : Value} {y : DataW H} {ms : List MemPlace} (hv : Value.okWide Try.prog W r b0 26 x) (h : DataW.Trod enc Try.prog W 0 (fun _ => true) true 26 x y ms) :
    ∃ (d s p v t : Nat) (dr : Bool) (b : ByteArray), x = Tg.frV d s p dr v t b ∧ d < 18446744073709551616 ∧ s < 18446744073709551616 ∧ p < 256 ∧ v < 65536 ∧ t < 65536 ∧ b.size ≤ maxLen := by
  obtain ⟨cs, n, rfl, hsz, hf⟩ := fields_of Try.underlying26 (by kernel_rfl) (by kernel_rfl) hv h
  obtain ⟨u0, y0, g0, t0⟩ := hf 0 _ rfl
  obtain ⟨u1, y1, g1, t1⟩ := hf 1 _ rfl
  obtain ⟨u2, y2, g2, t2⟩ := hf 2 _ rfl
  obtain ⟨u3, y3, g3, t3⟩ := hf 3 _ rfl
  obtain ⟨u4, y4, g4, t4⟩ := hf 4 _ rfl
  obtain ⟨u5, y5, g5, t5⟩ := hf 5 _ rfl
  obtain ⟨u6, y6, g6, t6⟩ := hf 6 _ rfl
  obtain ⟨a0, rfl, w0⟩ := int_at Try.underlying23 t0
  obtain ⟨a1, rfl, w1⟩ := int_at Try.underlying23 t1
  obtain ⟨a2, rfl, w2⟩ := int_at Try.underlying5 t2
  obtain ⟨a3, rfl⟩ := bool_at Try.underlying4 t3
  obtain ⟨a4, rfl, w4⟩ := int_at Try.underlying24 t4
  obtain ⟨a5, rfl, w5⟩ := int_at Try.underlying24 t5
  obtain ⟨a6, rfl, w6⟩ := str_at Try.underlying9 t6
  obtain ⟨d, rfl, hd⟩ := u64_of w0
  obtain ⟨s, rfl, hs⟩ := u64_of w1
  obtain ⟨p, rfl, hp⟩ := u8_of w2
  obtain ⟨v, rfl, hv'⟩ := u16_of w4
  obtain ⟨t, rfl, ht⟩ := u16_of w5
  exact ⟨d, s, p, v, t, a3, a6, congrArg Value.agg (arr7 hsz g0 g1 g2 g3 g4 g5 g6), hd, hs, hp, hv', ht, w6⟩
end Go.Proofs.Ytomchhjemfldnaa.Op
