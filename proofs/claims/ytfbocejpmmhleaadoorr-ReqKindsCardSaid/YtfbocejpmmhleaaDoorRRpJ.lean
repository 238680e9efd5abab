/-
  The statements RapsCloses, RapsOpens, RapsBack: their walks.
-/
import Derived.Test.YtfbocejpmmhleaaDoorRRapD
namespace Go.Proofs.YtfbocejpmmhleaaDoorR.Rp
open Go.RowKit Go.Proofs.YtfbocejpmmhleaaDoorR.Bt Go.Proofs.YtfbocejpmmhleaaDoorR.Mm Go.Proofs.YtfbocejpmmhleaaDoorR.Fl Go.Proofs.YtfbocejpmmhleaaDoorR.Lw Go.Proofs.YtfbocejpmmhleaaDoorR.Hx Go.Proofs.YtfbocejpmmhleaaDoorR.Mc Go.Proofs.YtfbocejpmmhleaaDoorR.Tg Go.Proofs.YtfbocejpmmhleaaDoorR.Oa

theorem same_bytesR (b : ByteArray) : (⟨b.data.toList.toArray⟩ : ByteArray) = b := rfl
theorem awake_closeM : closeM ⟨0, true, false, false, 2⟩ 7 = ([225, 40, 0, 32, 0, 128, 0, 0, 0, 0, 0, 2, 0, 0, 0, 0, 0, 0, 0, 0, 0, 0, 0, 0, 0, 0, 0, 0, 0, 0, 0, 0, 0, 0, 0, 0, 0], 0) := by decide +kernel
set_option maxRecDepth 100000 in
set_option maxHeartbeats 400000 in
theorem awake5 (w : World) : Calls Tryd.prog 15 #[] w fun e w' => e = .returned (.bool true) ∧ Below w.heap.size w w' := by
  have hx : ((⟨#[225, 40, 0, 32, 0, 128, 0, 0, 0, 0, 0, 2, 0, 0, 0, 0, 0, 0, 0, 0, 0, 0, 0, 0, 0, 0, 0, 0, 0, 0, 0, 0, 0, 0, 0, 0, 0]⟩ : ByteArray).extract 0 12).toList = [225, 40, 0, 32, 0, 128, 0, 0, 0, 0, 0, 2] := by decide +kernel
  go_enter Tryd.func15, Tryd.ntmps15
  go_wp2_with fail
  refine (close_at 0 true false false 2 7 w awake_closeM (by omega) (by omega)).mono ?_
  rintro e w1 ⟨rfl, hb1⟩
  have HB1 := Lib.hid hb1; clear hb1
  go_wp2_with fail
  refine (awake2 w1).mono ?_
  rintro e w2 ⟨rfl, hb2⟩
  have HB2 := Lib.hid (HB1.out.trans (hb2.mono HB1.out.size)); clear hb2
  go_wp2_with fail
  refine (awake4 w2).mono ?_
  rintro e w3 ⟨rfl, hb3⟩
  have HB3 := Lib.hid (HB2.out.trans (hb3.mono HB2.out.size)); clear hb3
  go_wp2
  go_ret
  exact ⟨rfl, HB3.out⟩
end Go.Proofs.YtfbocejpmmhleaaDoorR.Rp
