/-
  The statement ReqKinds: its walk.
-/
import Derived.Test.YtfbocejpmmhleaaDoorRReqB
namespace Go.Proofs.YtfbocejpmmhleaaDoorR.Rq
open Go.RowKit Go.Proofs.YtfbocejpmmhleaaDoorR.Bt Go.Proofs.YtfbocejpmmhleaaDoorR.Mm Go.Proofs.YtfbocejpmmhleaaDoorR.Fl Go.Proofs.YtfbocejpmmhleaaDoorR.Lw

set_option maxRecDepth 100000 in
theorem kinds_walk (k l : Int) (w : World) (_hk : (Lit.int .i64 k).wf = true) (_hl : (Lit.int .i64 l).wf = true) (hw : Wd w) : Calls Tryd.prog 3 #[.int .i64 k, .int .i64 l] w (Law1 w) := by
  clear _hk _hl
  obtain ⟨a, ha⟩ : ∃ a, mayK k = a := ⟨_, rfl⟩
  obtain ⟨b, hb⟩ : ∃ b, remK k = b := ⟨_, rfl⟩
  obtain ⟨c, hc⟩ : ∃ c, wordK k = c := ⟨_, rfl⟩
  obtain ⟨d, hd⟩ : ∃ d, aboveK k l = d := ⟨_, rfl⟩
  obtain ⟨f, hf⟩ : ∃ f, aboveK l k = f := ⟨_, rfl⟩
  have HA := Lib.hid ha
  have HB := Lib.hid hb
  have HC := Lib.hid hc
  have HD := Lib.hid hd
  have HF := Lib.hid hf
  clear ha hb hc hd hf
  have ea : (a == a) = true := by simp
  have eb : (b == b) = true := by simp
  have ed : (d == d) = true := by simp
  have ef : (f == f) = true := by simp
  go_enter Tryd.func3, Tryd.ntmps3
  go_wp2_with fail
  refine (awake12 w hw).mono ?_
  rintro e w1 ⟨rfl, h1⟩
  have HB1 := Lib.hid h1
  have HW1 := Lib.hid (hw.below h1 hw.lt)
  clear h1 hw
  go_wp2_with fail
  refine (may_b HA w1).mono ?_
  rintro e w2 ⟨rfl, rfl⟩
  go_wp2_with fail
  refine (rmay_b HA w2).mono ?_
  rintro e w3 ⟨rfl, rfl⟩
  go_wp2_with fail
  refine (remote_b HB w3).mono ?_
  rintro e w4 ⟨rfl, rfl⟩
  go_wp2_with fail
  refine (rremote_b HB w4).mono ?_
  rintro e w5 ⟨rfl, h5⟩
  have HB5 := Lib.hid (HB1.out.trans (h5.mono HB1.out.size))
  have HW5 := Lib.hid (HW1.out.below h5 HW1.out.lt)
  clear h5
  go_wp2_with fail
  refine (string_at HC w5 HW5.out).mono ?_
  rintro e w6 ⟨rfl, rfl⟩
  go_wp2_with fail
  refine (word_at HC w6).mono ?_
  rintro e w7 ⟨rfl, h7⟩
  have HB7 := Lib.hid (HB5.out.trans (h7.mono HB5.out.size))
  clear h7
  go_wp2_with fail
  refine (above_b HD w7).mono ?_
  rintro e w8 ⟨rfl, rfl⟩
  go_wp2_with fail
  refine (rabove_b HD w8).mono ?_
  rintro e w9 ⟨rfl, rfl⟩
  go_wp2_with fail
  refine (above_b HF w9).mono ?_
  rintro e w10 ⟨rfl, rfl⟩
  go_wp2_with fail
  refine (rabove_b HF w10).mono ?_
  rintro e w11 ⟨rfl, rfl⟩
  go_wp2
  go_ret
  exact ⟨rfl, HB7.out⟩
end Go.Proofs.YtfbocejpmmhleaaDoorR.Rq
