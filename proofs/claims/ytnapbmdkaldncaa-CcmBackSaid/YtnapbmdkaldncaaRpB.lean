/-
  Contract of raps' Close.
-/
import Derived.Test.YtnapbmdkaldncaaRpA
import Derived.Laws.OwnMore
namespace Go.Proofs.Ytnapbmdkaldncaa.Rp
open Go.RowKit Go.Proofs.Ytnapbmdkaldncaa.Bt Go.Proofs.Ytnapbmdkaldncaa.Mm Go.Proofs.Ytnapbmdkaldncaa.Fl Go.Proofs.Ytnapbmdkaldncaa.Lw Go.Proofs.Ytnapbmdkaldncaa.Hx Go.Proofs.Ytnapbmdkaldncaa.Mc Go.Proofs.Ytnapbmdkaldncaa.Tg Go.Proofs.Ytnapbmdkaldncaa.Oa

/-- a message's parts -/
abbrev partsM (q : Nat) (b k e : Bool) (n : Nat) : List (Int × Nat) := [(4, q), (4, 0), (1, bitN b 1), (1, bitN k 1), (1, bitN e 1), (5, 0), (48, n)]
abbrev firstM (q : Nat) (b k e : Bool) (n : Nat) : List UInt8 := UInt8.ofNat (q * 16) :: UInt8.ofNat (marks ⟨q, b, k, e, n⟩) :: bytesM n
theorem bitsB_bytesM {n : Nat} (h : n < 281474976710656) : bitsB (bytesM n) = bitsN n 48 := by
  unfold bytesM
  rw [bytesM_yes h]
  exact bitsB_bytesOf (bin_bitsN _ _) (by rw [length_bitsN])
theorem marks_bits (q : Nat) (b k e : Bool) (n : Nat) : bitsN (bitN b 1) 1 ++ (bitsN (bitN k 1) 1 ++ (bitsN (bitN e 1) 1 ++ bitsN 0 5)) = bitsN (marks ⟨q, b, k, e, n⟩) 8 := by
  show _ = bitsN (bitN b 128 + bitN k 64 + bitN e 32) 8
  clear q n
  revert b k e
  decide +kernel
theorem pack_msg (q : Nat) (b k e : Bool) (n : Nat) (hq : q < 16) (hn : n < 281474976710656) : packR (partsM q b k e n) = (firstM q b k e n, 0) := by
  have hm := (marks_lt ⟨q, b, k, e, n⟩).1
  have e0 : bitsN q 4 ++ bitsN 0 4 = bitsN (q * 16 + 0) 8 := (bitsN_join q 0 4 4 (by omega)).symm
  have eA : allBits (partsM q b k e n) = bitsB (firstM q b k e n) := by
    have e1 : allBits (partsM q b k e n) = (bitsN q 4 ++ bitsN 0 4) ++ ((bitsN (bitN b 1) 1 ++ (bitsN (bitN k 1) 1 ++ (bitsN (bitN e 1) 1 ++ bitsN 0 5))) ++ bitsN n 48) := by simp [allBits]
    rw [e1, e0, marks_bits q b k e n, bitsB_cons, bitsB_cons, bitsB_bytesM hn, ofNat_toNat _ hm, ofNat_toNat _ (by omega), Nat.add_zero]
  have hok : (partsM q b k e n).all okP = true := by
    have hb : ∀ b, bitN b 1 < 2 := by intro b; cases b <;> simp [bitN]
    have h1 := hb b
    have h2 := hb k
    have h3 := hb e
    simp only [List.all_cons, List.all_nil, Bool.and_true, Bool.and_eq_true, okP, decide_eq_true_eq]
    refine ⟨⟨by omega, by omega, ?_⟩, ⟨by omega, by omega, ?_⟩, ⟨by omega, by omega, ?_⟩, ⟨by omega, by omega, ?_⟩, ⟨by omega, by omega, ?_⟩, ⟨by omega, by omega, ?_⟩, ⟨by omega, by omega, ?_⟩⟩ <;> simp <;> omega
  unfold packR
  rw [if_pos hok, eA, if_pos (by rw [length_bitsB]; omega), bytesOf_bitsB]

/-- 'make([]byte, 24)' -/
theorem make24 (w : World) : (Instr.makeSlice 62 (.int .i64 24) (.int .i64 24)).run Try.prog w = .ok (.slice (some ⟨w.heap.size, 0, none⟩) 24 24) (w.alloc (.cells (byteVals (noughts 24)).toArray 5)) := by
  obtain ⟨i0, hi, hz0, hz1, hz2⟩ := info_parts info_u8
  have h := run_make (P := Try.prog) w 62 5 i0 (.int .u8 0) Try.underlying62 hi hz0 .i64 .i64 24 24 (by omega) (Int.le_refl _) (by rw [hz2]; decide) (by decide)
  rw [hz1, made_nums] at h
  exact h
theorem make16 (w : World) : (Instr.makeSlice 62 (.int .i64 16) (.int .i64 16)).run Try.prog w = .ok (.slice (some ⟨w.heap.size, 0, none⟩) 16 16) (w.alloc (.cells (byteVals (noughts 16)).toArray 5)) := by
  obtain ⟨i0, hi, hz0, hz1, hz2⟩ := info_parts info_u8
  have h := run_make (P := Try.prog) w 62 5 i0 (.int .u8 0) Try.underlying62 hi hz0 .i64 .i64 16 16 (by omega) (Int.le_refl _) (by rw [hz2]; decide) (by decide)
  rw [hz1, made_nums] at h
  exact h
theorem back24 (w : World) : (convert 62 9 (.slice (some ⟨w.heap.size, 0, none⟩) 24 24)).run Try.prog (w.alloc (.cells (byteVals (noughts 24)).toArray 5)) = .ok (.string ⟨(noughts 24).toArray⟩) (w.alloc (.cells (byteVals (noughts 24)).toArray 5)) :=
  back_new w _ (noughts 24) 24 24 rfl rfl Try.underlying62 Try.underlying5 Try.underlying9
theorem back16 (w : World) : (convert 62 9 (.slice (some ⟨w.heap.size, 0, none⟩) 16 16)).run Try.prog (w.alloc (.cells (byteVals (noughts 16)).toArray 5)) = .ok (.string ⟨(noughts 16).toArray⟩) (w.alloc (.cells (byteVals (noughts 16)).toArray 5)) :=
  back_new w _ (noughts 16) 16 16 rfl rfl Try.underlying62 Try.underlying5 Try.underlying9

/-- what boolParts hands on of three -/
def ThreePost (b k e : Bool) (w : World) (x : Ending) (w' : World) : Prop :=
  ∃ (g rc : Nat), x = .returned (.slice (some ⟨g, 0, none⟩) 3 rc) ∧ (∀ j u, (partCells (bitPs [b, k, e]))[j]? = some u → w'.cell? ((Addr.mk g 0 none).add j) = some u) ∧ Below w.heap.size w w'
theorem parts_three (b k e : Bool) (g c : Nat) (t : TypeId) (w : World) (hb : Blk w g t #[.bool b, .bool k, .bool e]) :
    Calls Try.prog 23 #[.slice (some ⟨g, 0, none⟩) 3 c] w (ThreePost b k e w) := by
  have hA : Rd w w.heap.size (some ⟨g, 0, none⟩) ([b, k, e].map Value.bool) := Rd.of_blk hb 3
  refine (parts_any [b, k, e] _ c w (by simp) hA).mono ?_
  rintro x w' ⟨R, rc, rfl, ho, hbel⟩
  have ho2 := ho
  obtain ⟨_, h | ⟨g, cap, cur, hv, _⟩⟩ := ho2
  · simp [bitPs] at h
  · cases hv
    exact ⟨g, rc, rfl, fun j u hu => ho.cells rfl j u hu, hbel⟩

set_option maxHeartbeats 1000000 in
theorem close_hi (q : Nat) (b k e : Bool) (n l : Nat) (w : World) (h : 7 < l) :
    Calls Try.prog 9 #[msV q b k e n, .int .u8 (l : Int)] w fun x w' => x = .returned (.tuple #[.string ⟨#[]⟩, .int .i64 4]) ∧ Below w.heap.size w w' := by
  have h1 : decide ((7 : Int) < (l : Int)) = true := gt_t (by omega)
  have HB := Lib.hid ((Below.refl w.heap.size w).alloc (Nat.le_refl _) (.cells (msC q b k e n) 26))
  clear h
  go_enter Try.func9, Try.ntmps9
  go_wp2
  go_ret2
  exact ⟨rfl, HB.out⟩
set_option maxHeartbeats 1000000 in
theorem close_wrong (q : Nat) (b k e : Bool) (n l r : Nat) (w : World) (h : ¬ 7 < l) (hr : wrongM ⟨q, b, k, e, n⟩ = r) (h0 : r ≠ 0) (hn : n < 18446744073709551616) :
    Calls Try.prog 9 #[msV q b k e n, .int .u8 (l : Int)] w fun x w' => x = .returned (.tuple #[.string ⟨#[]⟩, .int .i64 (r : Int)]) ∧ Below w.heap.size w w' := by
  have h1 : decide ((7 : Int) < (l : Int)) = false := gt_f (by omega)
  have h2 : ((r : Int) != 0) = true := neq_t (by omega)
  have HR := Lib.hid hr
  have HN := Lib.hid hn
  have HB := Lib.hid ((Below.refl w.heap.size w).alloc (Nat.le_refl _) (.cells (msC q b k e n) 26))
  clear h h0 hr hn
  go_enter Try.func9, Try.ntmps9
  go_wp2_with fail
  refine (wrong_at q b k e n _ HR.out HN.out).mono ?_
  rintro x w1 ⟨rfl, hb1⟩
  have HB1 := Lib.hid (HB.out.trans (hb1.mono HB.out.size))
  clear hb1
  go_wp2
  go_ret2
  exact ⟨rfl, HB1.out⟩
end Go.Proofs.Ytnapbmdkaldncaa.Rp
