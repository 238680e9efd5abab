/-
  The statements CcmCloses, CcmOpens, CcmBack: their walks.
-/
import Derived.Test.YtoiggajjbjcabaaCcmD
namespace Go.Proofs.Ytoiggajjbjcabaa.Cc
open Go.RowKit Go.Proofs.Ytoiggajjbjcabaa.Bt Go.Proofs.Ytoiggajjbjcabaa.Mm Go.Proofs.Ytoiggajjbjcabaa.Fl Go.Proofs.Ytoiggajjbjcabaa.Lw Go.Proofs.Ytoiggajjbjcabaa.Hx Go.Proofs.Ytoiggajjbjcabaa.Mc Go.Proofs.Ytoiggajjbjcabaa.Tg Go.Proofs.Ytoiggajjbjcabaa.Oa Go.Proofs.Ytoiggajjbjcabaa.Rp

theorem same_bytesC (b : ByteArray) : (⟨b.data.toList.toArray⟩ : ByteArray) = b := rfl
theorem awake_c1 : (closeC ⟨true, 4, 0, 1, nameC [120]⟩ 0).2 = 0 := by decide +kernel
theorem awake_c2 : (closeC ⟨true, 4, 0, 1, nameC [120]⟩ 0).1.length = 75 := by decide +kernel
theorem awake_c3 : byteAt (closeC ⟨true, 4, 0, 1, nameC [120]⟩ 0).1 2 = 132 := by decide +kernel
set_option maxRecDepth 100000 in
set_option maxHeartbeats 400000 in
theorem awake6 (w : World) : Calls Try.prog 26 #[] w fun e w' => e = .returned (.bool true) ∧ Below w.heap.size w w' := by
  obtain ⟨bs, hbs⟩ : ∃ bs, closeC ⟨true, 4, 0, 1, nameC [120]⟩ 0 = (bs, 0) := ⟨_, Prod.ext rfl awake_c1⟩
  have hl := awake_c2
  have hb := awake_c3
  rw [hbs] at hl hb
  simp only at hl hb
  obtain ⟨bb, hbb⟩ : ∃ bb : ByteArray, (⟨bs.toArray⟩ : ByteArray) = bb := ⟨_, rfl⟩
  obtain ⟨nm, hnm⟩ : ∃ nm : ByteArray, (⟨(nameC [120]).toArray⟩ : ByteArray) = nm := ⟨_, rfl⟩
  have hz : bb.size = 75 := by rw [← hbb, size_mk, hl]
  have i2 : 2 < bb.size := by omega
  have i3 : (2 : Int) < (bb.size : Int) := by omega
  have g2 : (bb[2]).toNat = 132 := by rw [byte_idx bb 2 i2, ← hbb]; exact hb
  have z75 : ((bb.size : Int) == 75) = true := by rw [hz]; rfl
  have HC := Lib.hid (show closeC ⟨true, 4, 0, 1, nm.data.toList⟩ 0 = (bs, 0) by rw [← hnm]; exact hbs)
  have HBB := Lib.hid hbb
  have HNM := Lib.hid hnm
  clear hbs hl hb hbb hnm hz
  go_enter Try.func26, Try.ntmps26
  go_wp2_with fail
  refine (name_at ⟨#[120]⟩ w HNM.out).mono ?_
  rintro x w1 ⟨rfl, hb1⟩
  have HB1 := Lib.hid hb1; clear hb1
  go_wp2_with fail
  refine (close_at true 4 0 1 nm 0 w1 HC.out (by omega)).mono ?_
  rintro x w2 ⟨rfl, hb2⟩
  have HB2 := Lib.hid (HB1.out.trans (hb2.mono HB1.out.size)); clear hb2
  rw [HBB.out]
  go_wp2_with fail
  refine (awake4 w2).mono ?_
  rintro x w3 ⟨rfl, hb3⟩
  have HB3 := Lib.hid (HB2.out.trans (hb3.mono HB2.out.size)); clear hb3
  go_wp2
  go_ret
  exact ⟨rfl, HB3.out⟩

end Go.Proofs.Ytoiggajjbjcabaa.Cc
