/-
  Watch: the message that it would send, the program's and the document's.
-/
import Derived.Test.YtlbnigdindpnfaaWaT
import Derived.Test.YtlbnigdindpnfaaCcmB
namespace Go.Proofs.Ytlbnigdindpnfaa.Wa
open Go.RowKit Go.Proofs.Ytlbnigdindpnfaa.Bt Go.Proofs.Ytlbnigdindpnfaa.Mm Go.Proofs.Ytlbnigdindpnfaa.Fl Go.Proofs.Ytlbnigdindpnfaa.Tg Go.Proofs.Ytlbnigdindpnfaa.Cc

set_option maxRecDepth 100000 in
set_option maxHeartbeats 2000000 in
theorem message_at {bs : List UInt8} {r : Nat} {b : ByteArray} (lv e p : Nat) (g : ByteArray) (iv hd nx : Int) (sn : Nat) (lo fa : Bool) (w : World)
    (h : closeC ⟨lo, p, sn % 4294967296, e, g.data.toList⟩ lv = (bs, r)) (hb : (⟨bs.toArray⟩ : ByteArray) = b) :
    Calls Try.prog 16 #[wtV lv e p g iv hd nx sn lo fa] w fun x w' => x = .returned (.tuple #[.string b, .int .i64 (r : Int)]) ∧ Below w.heap.size w w' := by
  obtain ⟨cn, hcn⟩ : ∃ cn, cn = sn % 4294967296 := ⟨_, rfl⟩
  rw [← hcn] at h
  have v1 : IntKind.u32.wrap (sn : Int) = (cn : Int) := by rw [IntKind.wrap_u32]; omega
  have HC := Lib.hid h
  have HN := Lib.hid (show cn < 4294967296 by omega)
  have HBB := Lib.hid hb
  clear h hcn hb
  go_enter Try.func16, Try.ntmps16
  go_wp2_with fail
  have HB := Lib.hid (below_two w (.cells (wtC lv e p g iv hd nx sn lo fa) 25) (.cells (cmC lo p cn e g) 48))
  generalize (w.alloc (.cells (wtC lv e p g iv hd nx sn lo fa) 25)).alloc (.cells (cmC lo p cn e g) 48) = w0 at HB ⊢
  refine (Cc.close_at lo p cn e g lv w0 HC.out HN.out).mono ?_
  rintro x w1 ⟨rfl, hb⟩
  have HB1 := Lib.hid (HB.out.trans (hb.mono HB.out.size))
  clear hb
  rw [HBB.out]
  go_wp2
  go_ret2
  exact ⟨rfl, HB1.out⟩
set_option maxRecDepth 100000 in
set_option maxHeartbeats 2000000 in
theorem says_at {bs : List UInt8} {r : Nat} {b : ByteArray} (lv e p : Nat) (g : ByteArray) (iv hd nx : Int) (sn : Nat) (lo fa : Bool) (w : World)
    (h : closeC ⟨lo, p, sn % 4294967296, e, g.data.toList⟩ lv = (bs, r)) (hb : (⟨bs.toArray⟩ : ByteArray) = b) :
    Calls Try.prog 19 #[wtV lv e p g iv hd nx sn lo fa] w fun x w' => x = .returned (.tuple #[.string b, .int .i64 (r : Int)]) ∧ Below w.heap.size w w' := by
  obtain ⟨cn, hcn⟩ : ∃ cn, cn = sn % 4294967296 := ⟨_, rfl⟩
  rw [← hcn] at h
  have v0 : (sn : Int).tmod 4294967296 = (cn : Int) := by rw [hcn]; rfl
  have v2 : IntKind.u64.wrap (cn : Int) = (cn : Int) := by rw [IntKind.wrap_u64]; omega
  have v1 : IntKind.u32.wrap (cn : Int) = (cn : Int) := by rw [IntKind.wrap_u32]; omega
  have HC := Lib.hid h
  have HN := Lib.hid (show cn < 4294967296 by omega)
  have HBB := Lib.hid hb
  clear h hcn hb
  go_enter Try.func19, Try.ntmps19
  go_wp2_with fail
  have HB := Lib.hid ((Below.refl w.heap.size w).alloc (Nat.le_refl _) (.cells (wtC lv e p g iv hd nx sn lo fa) 31))
  generalize w.alloc (.cells (wtC lv e p g iv hd nx sn lo fa) 31) = w0 at HB ⊢
  refine (Cc.rclose_at lo p cn e g lv w0 HC.out HN.out).mono ?_
  rintro x w1 ⟨rfl, hb⟩
  have HB1 := Lib.hid (HB.out.trans (hb.mono HB.out.size))
  clear hb
  rw [HBB.out]
  go_wp2
  go_ret2
  exact ⟨rfl, HB1.out⟩
end Go.Proofs.Ytlbnigdindpnfaa.Wa
