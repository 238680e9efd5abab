/-
  Contract of oam's Open.
  Contract of oam's Open: where nothing is wrong; and its answer is openO's.
  Contract of the document's Open.
  The statements OamOpens and OamCloses: their walks.
-/
import Derived.Test.YtphndajaehofoaaDoorOamA
namespace Go.Proofs.YtphndajaehofoaaDoor.Oa
open Go.RowKit Go.Proofs.YtphndajaehofoaaDoor.Bt Go.Proofs.YtphndajaehofoaaDoor.Mm Go.Proofs.YtphndajaehofoaaDoor.Fl Go.Proofs.YtphndajaehofoaaDoor.Lw Go.Proofs.YtphndajaehofoaaDoor.Tg

theorem results_cell_tmp2 {fn : Func} {p u v : Tmp} {ty : TypeId} (h : fn.results = #[.cell p ty, .tmp u, .tmp v]) (tmps : Array Value) (P : Program) (w : World) :
    (results fn tmps).run P w = ((asAddr (tmps.getD p undef)).run P w).andThen fun a w₁ => ((loadVar ty a).run P w₁).andThen fun x w₂ => .ok (.tuple #[x, tmps.getD u undef, tmps.getD v undef]) w₂ := by
  simp only [results, h]
  simp [Sem.run_bind, Result.andThen]
theorem results_row3 {P : Program} {fn : Func} {p u v : Tmp} {ty : TypeId} (h : fn.results = #[.cell p ty, .tmp u, .tmp v]) (tmps : Array Value) (w : World) (g : Nat) (t : TypeId) (cs : Array Value) (fr : Nat × Nat) (d : TypeDesc)
    (hp : tmps.getD p undef = .pointer (some ⟨g, 0, none⟩)) (hg : w.heap[g]? = some (.cells cs t fr))
    (hu : P.underlying ty = some d) (hd : (match d with | .struct _ | .array _ _ => true | _ => false) = true) (hi : (P.info? ty).map (·.size) = some cs.size) :
    (results fn tmps).run P w = .ok (.tuple #[.agg cs, tmps.getD u undef, tmps.getD v undef]) w := by
  rw [results_cell_tmp2 h, hp]
  simp [asAddr, run_loadVar_row w g t ty cs fr d hg hu hd hi, Result.andThen]
abbrev zeroHC : Array Value := #[.int .u8 0, .int .u8 0, .int .u8 0, .int .u8 0, .int .u8 0]

end Go.Proofs.YtphndajaehofoaaDoor.Oa
namespace Go.Proofs.YtphndajaehofoaaDoor.Oa
open Go.RowKit Go.Proofs.YtphndajaehofoaaDoor.Bt Go.Proofs.YtphndajaehofoaaDoor.Mm Go.Proofs.YtphndajaehofoaaDoor.Fl Go.Proofs.YtphndajaehofoaaDoor.Lw Go.Proofs.YtphndajaehofoaaDoor.Tg

theorem byte_lt (s : List UInt8) (i : Nat) : byteAt s i < 256 := UInt8.toNat_lt _
theorem head_small (s : List UInt8) : Small (headOf s) := ⟨by have := byte_lt s 0; show byteAt s 0 / 32 < 256; omega, by have := byte_lt s 0; show byteAt s 0 % 32 < 256; omega, byte_lt s 1, byte_lt s 2, byte_lt s 3⟩
/-- a byte behind the head -/
theorem byte_rest (s : ByteArray) (i : Nat) (h : i < (s.extract 4 s.size).size) : ((s.extract 4 s.size)[i]'h).toNat = byteAt s.data.toList (4 + i) := by
  have e : (s.extract 4 s.size).data.toList[i]? = s.data.toList[4 + i]? := by rw [extract_list, List.getElem?_drop]
  have e2 : ((s.extract 4 s.size)[i]'h) = (s.extract 4 s.size).data.toList[i]'(by rw [size_list]; exact h) := rfl
  unfold byteAt
  rw [e2, List.getD_eq_getElem?_getD, ← e, List.getElem?_eq_getElem (by rw [size_list]; exact h)]
  rfl
/-- a head as a value -/
abbrev valH (h : Hd) : Value := hdV h.level h.version h.code h.flags h.offset
end Go.Proofs.YtphndajaehofoaaDoor.Oa
namespace Go.Proofs.YtphndajaehofoaaDoor.Oa
open Go.RowKit Go.Proofs.YtphndajaehofoaaDoor.Bt Go.Proofs.YtphndajaehofoaaDoor.Mm Go.Proofs.YtphndajaehofoaaDoor.Fl Go.Proofs.YtphndajaehofoaaDoor.Lw Go.Proofs.YtphndajaehofoaaDoor.Tg

theorem byte_idx (s : ByteArray) (i : Nat) (h : i < s.size) : (s[i]'h).toNat = byteAt s.data.toList i := by
  have e2 : (s[i]'h) = s.data.toList[i]'(by rw [size_list]; exact h) := rfl
  unfold byteAt
  rw [e2, List.getD_eq_getElem?_getD, List.getElem?_eq_getElem (by rw [size_list]; exact h)]
  rfl
end Go.Proofs.YtphndajaehofoaaDoor.Oa
namespace Go.Proofs.YtphndajaehofoaaDoor.Oa
open Go.RowKit Go.Proofs.YtphndajaehofoaaDoor.Bt Go.Proofs.YtphndajaehofoaaDoor.Mm Go.Proofs.YtphndajaehofoaaDoor.Fl Go.Proofs.YtphndajaehofoaaDoor.Lw Go.Proofs.YtphndajaehofoaaDoor.Tg

end Go.Proofs.YtphndajaehofoaaDoor.Oa
