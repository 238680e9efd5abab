/-
  Contracts of oam's Close and of the document's.
-/
import Derived.Test.YtflofehnclaffaaOam2
namespace Go.Proofs.Ytflofehnclaffaa.Oa
open Go.RowKit Go.Proofs.Ytflofehnclaffaa.Bt Go.Proofs.Ytflofehnclaffaa.Mm Go.Proofs.Ytflofehnclaffaa.Fl Go.Proofs.Ytflofehnclaffaa.Lw Go.Proofs.Ytflofehnclaffaa.Tg

/-- 'string([]byte{..})' -/
theorem back_new {P : Program} {src dst e : TypeId} (w : World) (cs : Array Value) (l : List UInt8) (n c : Nat) (hcs : cs.toList = byteVals l) (hn : l.length = n) (hs : P.underlying src = some (.slice e)) (he : P.underlying e = some (.int .u8)) (hd : P.underlying dst = some .string) :
    (convert src dst (.slice (some ⟨w.heap.size, 0, none⟩) n c)).run P (w.alloc (.cells cs e)) = .ok (.string ⟨l.toArray⟩) (w.alloc (.cells cs e)) := by
  subst hn
  refine run_convert_bytes_back (P := P) _ src dst e ⟨w.heap.size, 0, none⟩ c l hs he hd (fun j hj => ?_)
  rw [add_zero_block, (Blk.fresh w e cs).cell, ← Array.getElem?_toList, hcs]
  simp [byteVals, hj]
theorem gt_t {a : Nat} {b : Int} (h : b < (a : Int)) : decide (b < (a : Int)) = true := by simpa using h
theorem gt_f {a : Nat} {b : Int} (h : ¬ b < (a : Int)) : decide (b < (a : Int)) = false := by simpa using h

set_option maxHeartbeats 1000000 in
theorem close_level (l v c f o : Nat) (s : ByteArray) (w : World) (h : 7 < l) :
    Calls Try.prog 7 #[hdV l v c f o, .string s] w fun x w' => x = .returned (.tuple #[.string ⟨#[]⟩, .int .i64 4]) ∧ Below w.heap.size w w' := by
  have h1 : decide ((7 : Int) < (l : Int)) = true := gt_t (by omega)
  have HB := Lib.hid ((Below.refl w.heap.size w).alloc (Nat.le_refl _) (.cells (hdC l v c f o) 23))
  clear h
  go_enter Try.func7, Try.ntmps7
  go_wp2
  go_ret2
  exact ⟨rfl, HB.out⟩
set_option maxHeartbeats 1000000 in
theorem close_version (l v c f o : Nat) (s : ByteArray) (w : World) (h : ¬ 7 < l) (h' : 31 < v) :
    Calls Try.prog 7 #[hdV l v c f o, .string s] w fun x w' => x = .returned (.tuple #[.string ⟨#[]⟩, .int .i64 4]) ∧ Below w.heap.size w w' := by
  have h1 : decide ((7 : Int) < (l : Int)) = false := gt_f (by omega)
  have h2 : decide ((31 : Int) < (v : Int)) = true := gt_t (by omega)
  have HB := Lib.hid ((Below.refl w.heap.size w).alloc (Nat.le_refl _) (.cells (hdC l v c f o) 23))
  clear h h'
  go_enter Try.func7, Try.ntmps7
  go_wp2
  go_ret2
  exact ⟨rfl, HB.out⟩
set_option maxHeartbeats 1000000 in
theorem close_form (l v c f o : Nat) (s : ByteArray) (w : World) (h : ¬ 7 < l) (h' : ¬ 31 < v) (hn : s.size ≠ o) (ho : o < 256) :
    Calls Try.prog 7 #[hdV l v c f o, .string s] w fun x w' => x = .returned (.tuple #[.string ⟨#[]⟩, .int .i64 3]) ∧ Below w.heap.size w w' := by
  have h1 : decide ((7 : Int) < (l : Int)) = false := gt_f (by omega)
  have h2 : decide ((31 : Int) < (v : Int)) = false := gt_f (by omega)
  have h3 := ne_t hn
  have q1 : IntKind.i64.wrap (o : Int) = (o : Int) := IntWalk.i64_in _ ⟨by omega, by omega⟩
  have HB := Lib.hid ((Below.refl w.heap.size w).alloc (Nat.le_refl _) (.cells (hdC l v c f o) 23))
  clear h h' hn
  go_enter Try.func7, Try.ntmps7
  go_wp2
  go_ret2
  exact ⟨rfl, HB.out⟩
end Go.Proofs.Ytflofehnclaffaa.Oa
