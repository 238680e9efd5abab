/-
  The statements RapsCloses, RapsOpens, RapsBack: their walks.
-/
import Derived.Test.YthhiagdncjpdcaaRapD
namespace Go.Proofs.Ythhiagdncjpdcaa.Rp
open Go.RowKit Go.Proofs.Ythhiagdncjpdcaa.Bt Go.Proofs.Ythhiagdncjpdcaa.Mm Go.Proofs.Ythhiagdncjpdcaa.Fl Go.Proofs.Ythhiagdncjpdcaa.Lw Go.Proofs.Ythhiagdncjpdcaa.Hx Go.Proofs.Ythhiagdncjpdcaa.Mc Go.Proofs.Ythhiagdncjpdcaa.Tg Go.Proofs.Ythhiagdncjpdcaa.Oa

theorem same_bytesR (b : ByteArray) : (⟨b.data.toList.toArray⟩ : ByteArray) = b := rfl
theorem awake_closeM : closeM ⟨0, true, false, false, 2⟩ 7 = ([225, 40, 0, 32, 0, 128, 0, 0, 0, 0, 0, 2, 0, 0, 0, 0, 0, 0, 0, 0, 0, 0, 0, 0, 0, 0, 0, 0, 0, 0, 0, 0, 0, 0, 0, 0, 0], 0) := by decide +kernel
set_option maxRecDepth 100000 in
set_option maxHeartbeats 400000 in
theorem awake5 (w : World) : Calls Try.prog 20 #[] w fun e w' => e = .returned (.bool true) ∧ Below w.heap.size w w' := by
  have hx : ((⟨#[225, 40, 0, 32, 0, 128, 0, 0, 0, 0, 0, 2, 0, 0, 0, 0, 0, 0, 0, 0, 0, 0, 0, 0, 0, 0, 0, 0, 0, 0, 0, 0, 0, 0, 0, 0, 0]⟩ : ByteArray).extract 0 12).toList = [225, 40, 0, 32, 0, 128, 0, 0, 0, 0, 0, 2] := by decide +kernel
  go_enter Try.func20, Try.ntmps20
  go_wp2_with fail
  refine (close_at 0 true false false 2 7 w awake_closeM (by omega) (by omega)).mono ?_
  rintro e w1 ⟨rfl, hb1⟩
  have HB1 := Lib.hid hb1; clear hb1
  go_wp2_with fail
  refine (awake2 w1).mono ?_
  rintro e w2 ⟨rfl, hb2⟩
  have HB2 := Lib.hid (HB1.out.trans (hb2.mono HB1.out.size)); clear hb2
  go_wp2_with fail
  refine (awake4 w2).mono ?_
  rintro e w3 ⟨rfl, hb3⟩
  have HB3 := Lib.hid (HB2.out.trans (hb3.mono HB2.out.size)); clear hb3
  go_wp2
  go_ret
  exact ⟨rfl, HB3.out⟩
theorem of5_any (q : Nat) (b k e : Bool) (n : Nat) (w : World) :
    Calls Try.prog 10 #[msV q b k e n] w fun x w' => x = .returned (msV q b k e n) ∧ Below w.heap.size w w' := by
  go_enter Try.func10, Try.ntmps10
  go_wp2
  (try simp only [Exit.inBlock, Exit.then]); refine bodyPost_ret (results_cell_row rfl _ _ (w.heap.size + 1) 43 (msC q b k e n) (0, 0) _ rfl (heap_alloc2_new w _ _) Try.underlying43 rfl info_rmsg) rfl ?_
  exact ⟨rfl, ((Below.refl w.heap.size w).alloc (Nat.le_refl _) _).alloc (by simp) _⟩

end Go.Proofs.Ythhiagdncjpdcaa.Rp
