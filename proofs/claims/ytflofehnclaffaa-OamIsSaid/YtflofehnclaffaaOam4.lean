/-
  Contract of oam's Close: the rest.
-/
import Derived.Test.YtflofehnclaffaaOam3
namespace Go.Proofs.Ytflofehnclaffaa.Oa
open Go.RowKit Go.Proofs.Ytflofehnclaffaa.Bt Go.Proofs.Ytflofehnclaffaa.Mm Go.Proofs.Ytflofehnclaffaa.Fl Go.Proofs.Ytflofehnclaffaa.Lw Go.Proofs.Ytflofehnclaffaa.Tg

set_option maxRecDepth 100000 in
set_option maxHeartbeats 1000000 in
theorem close_ok (l v c f o : Nat) (s : ByteArray) (hb : List UInt8) (w : World) (h : ¬ 7 < l) (h' : ¬ 31 < v) (hn : s.size = o) (hc : c < 256) (hf : f < 256) (ho : o < 256) (hp : packR (partsH l v c f o) = (hb, 0)) (hv : ∀ q ∈ partsH l v c f o, q.2 < 18446744073709551616) (hl4 : hb.length ≤ 100) :
    Calls Try.prog 7 #[hdV l v c f o, .string s] w fun x w' => x = .returned (.tuple #[.string ((⟨hb.toArray⟩ ++ s) ++ ⟨#[0]⟩), .int .i64 0]) ∧ Below w.heap.size w w' := by
  have HP := Lib.hid hp; clear hp
  have HV := Lib.hid hv; clear hv
  have h1 : decide ((7 : Int) < (l : Int)) = false := gt_f (by omega)
  have h2 : decide ((31 : Int) < (v : Int)) = false := gt_f (by omega)
  have h3 := ne_f hn
  have hs2 : (⟨hb.toArray⟩ : ByteArray).size ≤ 100 := by show hb.toArray.size ≤ 100; simpa using hl4
  have hs3 : s.size < 256 := by omega
  generalize hBs : (⟨hb.toArray⟩ : ByteArray) = bs at hs2 ⊢
  have HBs := Lib.hid hBs; clear hBs
  have q1 : IntKind.i64.wrap (o : Int) = (o : Int) := IntWalk.i64_in _ ⟨by omega, by omega⟩
  have q2 : IntKind.u64.wrap (l : Int) = (l : Int) := IntWalk.u64_in _ ⟨by omega, by omega⟩
  have q3 : IntKind.u64.wrap (v : Int) = (v : Int) := IntWalk.u64_in _ ⟨by omega, by omega⟩
  have q4 : IntKind.u64.wrap (c : Int) = (c : Int) := IntWalk.u64_in _ ⟨by omega, by omega⟩
  have q5 : IntKind.u64.wrap (f : Int) = (f : Int) := IntWalk.u64_in _ ⟨by omega, by omega⟩
  have q6 : IntKind.u64.wrap (o : Int) = (o : Int) := IntWalk.u64_in _ ⟨by omega, by omega⟩
  have HB := Lib.hid ((Below.refl w.heap.size w).alloc (Nat.le_refl _) (.cells (hdC l v c f o) 23))
  clear h h' hn hl4 ho
  go_enter Try.func7, Try.ntmps7
  go_wp2_with fail
  refine (pack_blk (partsH l v c f o) _ _ _ _ _ _ _ _ (fresh_second _ _ _ _) rfl rfl (by simp) HV.out HP.out).mono ?_
  rintro e w1 ⟨rfl, hb1⟩
  have HB1 := Lib.hid ((HB.out.alloc HB.out.size _).trans (hb1.mono (by simp; omega)))
  clear hb1 q1 q2 q3 q4 q5 q6
  rw [HBs.out]
  have hcv := back_new (P := Try.prog) (src := 44) (dst := 9) (e := 5) w1 #[.int .u8 0] [0] 1 1 rfl rfl Try.underlying44 Try.underlying5 Try.underlying9
  have z1 : (⟨[(0 : UInt8)].toArray⟩ : ByteArray).size = 1 := rfl
  go_wp2
  go_ret2
  exact ⟨rfl, HB1.out.alloc HB1.out.size _⟩
end Go.Proofs.Ytflofehnclaffaa.Oa
