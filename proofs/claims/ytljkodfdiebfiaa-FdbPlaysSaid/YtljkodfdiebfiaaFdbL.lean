/-
  Tables: the law's Same.
-/
import Derived.Test.YtljkodfdiebfiaaFdbH
import Derived.Test.YtljkodfdiebfiaaFdbI
namespace Go.Proofs.Ytljkodfdiebfiaa.Fd
open Go.RowKit Go.Proofs.Ytljkodfdiebfiaa.Mm Go.Proofs.Ytljkodfdiebfiaa.Tg

set_option maxRecDepth 100000 in
set_option maxHeartbeats 4000000 in
theorem same_any {room age room' age' : Int} {b : Nat} {A : Option Addr} {c n : Nat} {l : List Fr} {w : World} (h : Mp w b l) (hr : Rising l) (hk : ∀ x ∈ l, okK x) (hA : Rd w w.heap.size A (rowCs l)) (hn : n = l.length) (hl : n ≤ 1024) :
    Calls Try.prog 15 #[tbV room age (some b), rtV room' age' A n c] w fun e w' => e = .returned (.bool true) ∧ Below w.heap.size w w' := by
  have HM0 := Lib.hid h; have HR0 := Lib.hid hr; have HK0 := Lib.hid hk; have HA0 := Lib.hid hA; have HN := Lib.hid hn
  clear h hr hk hA hn
  go_enter Try.func15, Try.ntmps15
  go_upto_region 1 with (fail)
  have HT := Lib.hid (blk_two w 26 34 (tbC room age (some b)) (rtC room' age' A n c))
  have HQ := Lib.hid (fresh_second w (.cells (tbC room age (some b)) 26) 34 (rtC room' age' A n c))
  have HB := Lib.hid (below_two w (.cells (tbC room age (some b)) 26) (.cells (rtC room' age' A n c) 34))
  have HA := Lib.hid ((HA0.out.below HB.out).more HB.out.size)
  have HM := Lib.hid (HM0.out.on HB.out)
  generalize (w.alloc (.cells (tbC room age (some b)) 26)).alloc (.cells (rtC room' age' A n c) 34) = w0 at HT HQ HB HA HM ⊢
  cases Rw3.row HT.out
  go_wp2_with fail
  refine (rows_any HM.out HR0.out HK0.out (by have := HN.out; omega)).mono ?_
  rintro e w1 ⟨R, rc, rfl, hrd, hb⟩
  have HRR := Lib.hid hrd
  have HQ1 := Lib.hid (HQ.out.below hb HQ.out.lt)
  have HA1 := Lib.hid ((HA.out.below hb).more hb.size)
  have HB1 := Lib.hid (HB.out.trans (hb.mono HB.out.size))
  have L1 : w.heap.size + 1 < w1.heap.size := HQ1.out.lt
  rw [← HN.out]
  clear hb hrd
  have hkk : ((n : Int) != (n : Int)) = false := by simp
  cases Rw3.row HQ1.out
  go_wp2_with fail
  go_loopw [18] (fun i wr => ∃ k : Nat, k ≤ n ∧ i = .int .i64 k ∧ Below w1.heap.size w1 wr) (fun i _ => n - (intOf i).toNat)
  case atStart => exact ⟨0, Nat.zero_le _, rfl, Below.refl _ _⟩
  case round =>
    obtain ⟨k, hkn, rfl, hbw⟩ := hrel
    have HBw := Lib.hid hbw
    have hs := hbw.size
    clear hbw
    have HQw := Lib.hid (HQ1.out.below HBw.out L1)
    have HAw := Lib.hid (HA1.out.below HBw.out)
    have HRw := Lib.hid (HRR.out.below HBw.out)
    by_cases hlt : k < n
    · have hkl : k < l.length := by rw [← HN.out]; exact hlt
      obtain ⟨y, hy⟩ : ∃ y, y = l[k] := ⟨_, rfl⟩
      obtain ⟨yv, ya, yp, ys⟩ := y
      have hgy : l[k]? = some ⟨yv, ya, yp, ys⟩ := by rw [List.getElem?_eq_getElem hkl, ← hy]
      obtain ⟨ad, rfl, hb1, c0, c1, c2, c3⟩ := rd_row HAw.out hgy
      obtain ⟨bd, rfl, hb2, e0, e1, e2, e3⟩ := rd_row HRw.out hgy
      have q0 : ((yv : Int) == (yv : Int)) = true := by simp
      have q1 : ((ya : Int) == (ya : Int)) = true := by simp
      have q2 : (yp == yp) = true := by simp
      have q3 : (ys == ys) = true := by simp
      have HGY : Hid (l[k]? = some ⟨yv, ya, yp, ys⟩) := Lib.hid hgy
      clear hgy hy
      dsimp only at c0 c1 c2 c3 e0 e1 e2 e3
      cases Rw3.row HQw.out
      go_upto_region 7 with (fail)
      have HF := Lib.hid (Blk.fresh wr 57 #[.int .u16 (yv : Int), .int .u64 (ya : Int), .int .i64 yp, .int .i64 ys])
      have HC := Lib.hid ((Below.refl wr.heap.size wr).alloc (Nat.le_refl _) (.cells #[.int .u16 (yv : Int), .int .u64 (ya : Int), .int .i64 yp, .int .i64 ys] 57))
      have HQx := Lib.hid (HQw.out.below HC.out HQw.out.lt)
      have HAx := Lib.hid (HAw.out.keep (fun q hq => HC.out.cell (by omega)))
      clear c0 c1 c2 c3 e0 e1 e2 e3
      obtain ⟨z, hz⟩ : ∃ z, z = wr.heap.size := ⟨_, rfl⟩
      have hs2 := HC.out.size
      rw [← hz] at HF ⊢
      clear hz
      generalize wr.alloc (.cells #[.int .u16 (yv : Int), .int .u64 (ya : Int), .int .i64 yp, .int .i64 ys] 57) = wx at HF HC HQx HAx hs2 ⊢
      obtain ⟨ad', had, _, c0, c1, c2, c3⟩ := rd_row HAx.out HGY.out
      obtain rfl : ad = ad' := by simpa using had
      dsimp only at c0 c1 c2 c3
      clear had
      cases Rw4.row HF.out
      cases Rw3.row HQx.out
      go_quiet (fail)
      go_wp2
      go_roundw
      case rel => exact ⟨k + 1, by omega, by go_num, below_drewN (HBw.out.trans (HC.out.mono hs)) nq⟩
      case measure => simp [intOf]; omega
    · have ek : n = k := by omega
      have HEK := Lib.hid ek
      have hd : decide ((k : Int) < (n : Int)) = false := decide_eq_false (by omega)
      clear ek
      go_wp2
      go_ret
      exact ⟨rfl, HB1.out.trans (HBw.out.mono (by omega))⟩
end Go.Proofs.Ytljkodfdiebfiaa.Fd
