/-
  The statement OamIs: its walk.
-/
import Derived.Test.YtflofehnclaffaaOam5
namespace Go.Proofs.Ytflofehnclaffaa.Oa
open Go.RowKit Go.Proofs.Ytflofehnclaffaa.Bt Go.Proofs.Ytflofehnclaffaa.Mm Go.Proofs.Ytflofehnclaffaa.Fl Go.Proofs.Ytflofehnclaffaa.Lw Go.Proofs.Ytflofehnclaffaa.Tg

theorem is_f {l v c f o : Nat} (I : Nat → Nat → Nat → Nat → Nat) (hI : ∀ a b d e, isO ⟨l, v, c, f, o⟩ a b d e = I a b d e) (a b d e : Nat) (w : World) :
    Calls Try.prog 11 #[hdV l v c f o, .int .u8 (a : Int), .int .u8 (b : Int), .int .u8 (d : Int), .int .u8 (e : Int)] w fun x w' => x = .returned (.int .i64 (I a b d e : Nat)) ∧ Below w.heap.size w w' := by
  rw [← hI]
  exact is_any l v c f o a b d e w
theorem ris_f {l v c f o : Nat} (I : Nat → Nat → Nat → Nat → Nat) (hI : ∀ a b d e, isO ⟨l, v, c, f, o⟩ a b d e = I a b d e) (a b d e : Nat) (w : World) :
    Calls Try.prog 12 #[hdV l v c f o, .int .u8 (a : Int), .int .u8 (b : Int), .int .u8 (d : Int), .int .u8 (e : Int)] w fun x w' => x = .returned (.int .i64 (I a b d e : Nat)) ∧ Below w.heap.size w w' := by
  rw [← hI]
  exact ris_any l v c f o a b d e w

set_option maxRecDepth 100000 in
set_option maxHeartbeats 1000000 in
theorem is_walk (l v c f o a b d e : Nat) (w : World) (_ : l < 256) (_ : v < 256) (_ : c < 256) (_ : f < 256) (_ : o < 256) (_ : a < 256) (_ : b < 256) (_ : d < 256) (_ : e < 256) : Calls Try.prog 5 #[hdV l v c f o, .int .u8 (a : Int), .int .u8 (b : Int), .int .u8 (d : Int), .int .u8 (e : Int)] w (Law1 w) := by
  obtain ⟨I, hI⟩ : ∃ I : Nat → Nat → Nat → Nat → Nat, ∀ a b d e, isO ⟨l, v, c, f, o⟩ a b d e = I a b d e := ⟨_, fun _ _ _ _ => rfl⟩
  have i0 : (((I l v c o : Nat) : Int) == 0) = true := by rw [← hI]; simp [isO]
  have i1 : (((I a b d e : Nat) : Int) == ((I a b d e : Nat) : Int)) = true := by simp
  have HI := Lib.hid hI; clear hI
  have HB := Lib.hid ((Below.refl w.heap.size w).alloc (Nat.le_refl _) (.cells (hdC l v c f o) 23))
  go_enter Try.func5, Try.ntmps5
  go_wp2_with fail
  have K0 := Rw5.fresh w 23 (.int .u8 (l : Int)) (.int .u8 (v : Int)) (.int .u8 (c : Int)) (.int .u8 (f : Int)) (.int .u8 (o : Int))
  generalize (w.alloc (.cells (hdC l v c f o) 23)) = wA at HB K0 ⊢
  have HA := Lib.hid HB.out.size
  go_region_held3 (fun w' => w.heap.size < w'.heap.size ∧ w'.cell? ⟨w.heap.size, 0, none⟩ = some (.int .u8 (l : Int)) ∧ w'.cell? ⟨w.heap.size, 1, none⟩ = some (.int .u8 (v : Int)) ∧ w'.cell? ⟨w.heap.size, 2, none⟩ = some (.int .u8 (c : Int)) ∧ w'.cell? ⟨w.heap.size, 3, none⟩ = some (.int .u8 (f : Int)) ∧ w'.cell? ⟨w.heap.size, 4, none⟩ = some (.int .u8 (o : Int))) (first | exact K0 | exact Rw5.keep hb2 (by assumption))
    (first | (go_at_call 6; refine (awake4 _).mono ?_; rintro e w2 ⟨rfl, hb2⟩; (first | have HB := Lib.hid (HB.out.trans (hb2.mono HA.out)) | have HB := Lib.hid (HB.out.drew.trans (hb2.mono HA.out))); have HA := Lib.hid (Nat.le_trans HA.out hb2.size)) | (go_at_call 12; refine (ris_f I HI.out _ _ _ _ _).mono ?_; rintro e w2 ⟨rfl, hb2⟩; (first | have HB := Lib.hid (HB.out.trans (hb2.mono HA.out)) | have HB := Lib.hid (HB.out.drew.trans (hb2.mono HA.out))); have HA := Lib.hid (Nat.le_trans HA.out hb2.size)) | (go_at_call 11; refine (is_f I HI.out _ _ _ _ _).mono ?_; rintro e w2 ⟨rfl, hb2⟩; (first | have HB := Lib.hid (HB.out.trans (hb2.mono HA.out)) | have HB := Lib.hid (HB.out.drew.trans (hb2.mono HA.out))); have HA := Lib.hid (Nat.le_trans HA.out hb2.size)))
  all_goals
    go_wp2
    go_ret
    exact ⟨rfl, HB.out⟩
end Go.Proofs.Ytflofehnclaffaa.Oa
