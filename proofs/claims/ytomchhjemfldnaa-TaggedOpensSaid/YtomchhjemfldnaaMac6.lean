/-
  Contract: the document's String.
-/
import Derived.Test.YtomchhjemfldnaaMac5
namespace Go.Proofs.Ytomchhjemfldnaa.Mc
open Go.RowKit Go.Proofs.Ytomchhjemfldnaa.Bt Go.Proofs.Ytomchhjemfldnaa.Mm Go.Proofs.Ytomchhjemfldnaa.Fl Go.Proofs.Ytomchhjemfldnaa.Rf Go.Proofs.Ytomchhjemfldnaa.Hx Go.Proofs.Ytomchhjemfldnaa.Lw

/-- 'string([]byte{a, b})', the bytes just written out -/
theorem run_two {P : Program} (W : World) (src dst e : TypeId) (a b : Nat) (hs : P.underlying src = some (.slice e)) (he : P.underlying e = some (.int .u8)) (hd : P.underlying dst = some .string) :
    (convert src dst (.slice (some ⟨W.heap.size, 0, none⟩) 2 2)).run P (W.alloc (.cells #[.int .u8 (a : Int), .int .u8 (b : Int)] e)).drew = .ok (.string ⟨#[UInt8.ofNat a, UInt8.ofNat b]⟩) (W.alloc (.cells #[.int .u8 (a : Int), .int .u8 (b : Int)] e)).drew := by
  have hB := (Blk.fresh W e #[.int .u8 (a : Int), .int .u8 (b : Int)]).drew
  have hl := run_loadCells_list (P := P) (W.alloc (.cells #[.int .u8 (a : Int), .int .u8 (b : Int)] e)).drew ⟨W.heap.size, 0, none⟩ ([(a : Int), (b : Int)].map (Value.int .u8)) (fun j v hj => by
    rw [add_zero_block, hB.cell, ← hj]
    simp)
  rw [run_convert_bytes_string _ src dst e _ 2 2 hs he hd]
  rw [run_bytesToString _ _ 2 2 [(a : Int), (b : Int)] hl]
  rfl

end Go.Proofs.Ytomchhjemfldnaa.Mc
