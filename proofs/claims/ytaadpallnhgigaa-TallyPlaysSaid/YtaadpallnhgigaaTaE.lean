/-
  Tally: the document's example (awake7).
-/
import Derived.Test.YtaadpallnhgigaaTaC
import Derived.Test.YtaadpallnhgigaaTaD
namespace Go.Proofs.Ytaadpallnhgigaa.Ta
open Go.RowKit Go.Proofs.Ytaadpallnhgigaa.Bt Go.Proofs.Ytaadpallnhgigaa.Mm Go.Proofs.Ytaadpallnhgigaa.Fl Go.Proofs.Ytaadpallnhgigaa.Tg Go.Proofs.Ytaadpallnhgigaa.Lw

theorem awake7 (w : World) : Calls Try.prog 6 #[] w fun e w' => e = .returned (.bool true) ∧ Below w.heap.size w w' := by
  have o0 : Ok (fun _ => 0) := fun _ => Nat.succ_pos _
  obtain ⟨f1, hf1⟩ : ∃ f1, f1 = addF (fun _ => 0) 3 5 := ⟨_, rfl⟩
  obtain ⟨f2, hf2⟩ : ∃ f2, f2 = addF f1 3 18446744073709551613 := ⟨_, rfl⟩
  have o1 : Ok f1 := by rw [hf1]; exact o0.add _ _
  have g3 : getF f2 3 = 18446744073709551615 := by rw [hf2, hf1]; decide
  have g2 : getF f2 2 = 0 := by rw [hf2, hf1]; decide
  have H1 := Lib.hid hf1
  have H2 := Lib.hid hf2
  have G3 := Lib.hid g3
  have G2 := Lib.hid g2
  clear hf1 hf2 g3 g2
  go_enter Try.func6, Try.ntmps6
  go_wp2_with fail
  refine (new_any w).mono ?_
  rintro e w1 ⟨g, rfl, hgl, hb, hbl⟩
  have HB := Lib.hid hb
  have HL := Lib.hid hbl
  clear hb hbl
  go_wp2_with fail
  refine (add_any _ 3 5 g w1 o0 (by decide) HB.out).mono ?_
  rintro e w2 ⟨rfl, hb, ho⟩
  rw [← H1.out] at hb
  have HB2 := Lib.hid hb
  have HL2 := Lib.hid (HL.out.trans (ho.below hgl HL.out.size))
  clear hb ho
  go_wp2_with fail
  refine (add_any _ 3 18446744073709551613 g w2 o1 (by decide) HB2.out).mono ?_
  rintro e w3 ⟨rfl, hb, ho⟩
  rw [← H2.out] at hb
  have HB3 := Lib.hid hb
  have HL3 := Lib.hid (HL2.out.trans (ho.below hgl HL2.out.size))
  clear hb ho
  go_wp2_with fail
  refine (get_any f2 3 g w3 HB3.out).mono ?_
  rintro e w4 ⟨rfl, rfl⟩
  rw [G3.out]
  go_wp2_with fail
  refine (get_any f2 2 g w4 HB3.out).mono ?_
  rintro e w5 ⟨rfl, rfl⟩
  rw [G2.out]
  go_wp2_with fail
  refine (all_any f2 g w5 HB3.out).mono ?_
  rintro e w6 ⟨b, rfl, -, hbl⟩
  have HL6 := Lib.hid (HL3.out.trans (hbl.mono HL3.out.size))
  clear hbl
  go_wp2
  go_ret
  exact ⟨rfl, HL6.out⟩
end Go.Proofs.Ytaadpallnhgigaa.Ta
