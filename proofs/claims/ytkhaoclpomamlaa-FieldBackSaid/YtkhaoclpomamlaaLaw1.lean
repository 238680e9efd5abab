/-
  The statement FieldPacks: its walk.
-/
import Derived.Test.YtkhaoclpomamlaaRef2
namespace Go.Proofs.Ytkhaoclpomamlaa.Lw
open Go.RowKit Go.Proofs.Ytkhaoclpomamlaa.Bt Go.Proofs.Ytkhaoclpomamlaa.Mm Go.Proofs.Ytkhaoclpomamlaa.Fl Go.Proofs.Ytkhaoclpomamlaa.Rf

theorem awake_packs : packR [(3, 5), (1, 0), (12, 100)] = ([0xa0, 0x64], 0) := by decide +kernel
theorem Rd.of_cells {w : World} {g : Nat} {t : TypeId} {xs : List Value} (h : Blk w g t xs.toArray) : Rd w w.heap.size (some ⟨g, 0, none⟩) xs := by
  have := Rd.of_blk h xs.length
  simpa using this

/-- Pack of parts that the caller has written out -/
theorem pack_lit (ps : List (Int × Nat)) (cs : Array Value) (s : List UInt8) (n k c : Nat) (t : TypeId) (w : World) (hcs : cs.toList = partCells ps) (hn : ps.length = n) (hn2 : n ≤ 100000) (hv : ∀ p ∈ ps, p.2 < 18446744073709551616) (hr : packR ps = (s, k)) :
    Calls Try.prog 10 #[.slice (some ⟨w.heap.size, 0, none⟩) n c] (w.alloc (.cells cs t)) fun e w' => e = .returned (.tuple #[.string ⟨s.toArray⟩, .int .i64 (k : Nat)]) ∧ Below (w.heap.size + 1) (w.alloc (.cells cs t)) w' := by
  subst hn
  have hb := Blk.fresh w t cs
  have hA : Rd (w.alloc (.cells cs t)) (w.alloc (.cells cs t)).heap.size (some ⟨w.heap.size, 0, none⟩) (partCells ps) := by
    rw [← hcs]
    exact Rd.of_cells (xs := cs.toList) (by simpa using hb)
  have h := pack_any ps (some ⟨w.heap.size, 0, none⟩) c (w.alloc (.cells cs t)) hn2 hA hv
  rw [hr] at h
  simpa using h

set_option maxHeartbeats 400000 in
theorem awake1 (w : World) : Calls Try.prog 9 #[] w fun e w' => e = .returned (.bool true) ∧ Below w.heap.size w w' := by
  go_enter Try.func9, Try.ntmps9
  go_wp2_with fail
  refine (pack_lit [(3, 5), (1, 0), (12, 100)] _ _ _ _ _ _ w rfl rfl (by decide) (by intro p hp; simp at hp; rcases hp with rfl | rfl | rfl <;> omega) awake_packs).mono ?_
  rintro e w1 ⟨rfl, hb⟩
  have HB := Lib.hid (((Below.refl w.heap.size w).alloc (Nat.le_refl _) (.cells #[.int .i64 3, .int .u64 5, .int .i64 1, .int .u64 0, .int .i64 12, .int .u64 100] 27)).trans (hb.mono (by omega)))
  clear hb
  go_wp2
  go_ret
  exact ⟨rfl, HB.out⟩

def Law1 (w : World) (e : Ending) (w' : World) : Prop := e = .returned (.bool true) ∧ Below w.heap.size w w'

theorem info_part : (Try.prog.info? 28).map (fun i => (i.zero, i.size, i.bytes)) = some (some (.agg #[.int .i64 0, .int .u64 0]), 2, 16) := by kernel_rfl

set_option maxHeartbeats 1000000 in
theorem packs_walk (ps : List (Int × Nat)) (A : Option Addr) (c : Nat) (w : World) (hm : ps.length ≤ maxLen) (hA : Rd w w.heap.size A (partCells ps)) (hv : ∀ p ∈ ps, p.2 < 18446744073709551616) :
    Calls Try.prog 3 #[.slice A ps.length c] w (Law1 w) := by
  unfold maxLen at hm
  have HA := Lib.hid hA; clear hA
  have HV := Lib.hid hv; clear hv
  by_cases hl : 60 < ps.length
  · go_enter Try.func3, Try.ntmps3
    go_wp2_with fail
    refine (awake1 w).mono ?_
    rintro e w1 ⟨rfl, hb⟩
    have HB := Lib.hid hb; clear hb
    go_wp2
    go_ret
    exact ⟨rfl, HB.out⟩
  · obtain ⟨i0, hi, hz0, hz1, hz2⟩ := info_parts info_part
    have hl2 : decide ((60 : Int) < (ps.length : Int)) = false := by simp; omega
    go_enter Try.func3, Try.ntmps3
    go_wp2_with fail
    go_loopw [3, 16] (fun v i wr => ∃ (k : Nat) (R : Option Addr) (rc : Nat), k ≤ ps.length ∧ i = .int .i64 k ∧ v = .slice R k rc ∧ wr.ownsRow w.heap.size 28 2 (.slice R k rc) k (partCells (ps.take k)) ∧ Below w.heap.size w wr) (fun _ i _ => ps.length - (intOf i).toNat)
    case atStart => exact ⟨0, none, 0, Nat.zero_le _, rfl, rfl, World.ownsRow_nil _ _ _ _, Below.refl _ _⟩
    case round =>
      obtain ⟨k, R, rc, hk, rfl, rfl, hown, hb⟩ := hrel
      by_cases hlt : k < ps.length
      · have hc := get_partCells ps k hlt
        obtain ⟨ad, rfl, hbl, hcell⟩ := (HA.out.below hb) (by rw [length_partCells]; omega)
        have c0 := hcell _ _ hc.1
        have c1 := hcell _ _ hc.2
        rw [add_succ] at c1
        clear hcell hc
        have hsz := hb.size
        have HB := Lib.hid hb; clear hb
        have HO := Lib.hid hown; clear hown
        generalize hp : ps[k] = p at c0 c1
        obtain ⟨W, V⟩ := p
        have HP := Lib.hid hp; clear hp
        simp only at c0 c1
        go_wp2_with (at_builtin; refine wpList_append_own _ rfl (.tmp 20) (.tmp 22) 24 rfl w.heap.size 28 i0 (.agg #[.int .i64 0, .int .u64 0]) 2 16 Try.underlying24 hi hz0 hz1 hz2 rfl (by decide) _ _ _ rfl ((HO.out.alloc _).alloc _) ⟨wr.heap.size + 1, 0, none⟩ 1 1 [.int .i64 W, .int .u64 (V : Int)] rfl rfl (cells_new _ _ _ _ _ (by simp) rfl) (by intro u hu; simp at hu; rcases hu with rfl | rfl <;> rfl) (by unfold maxLen; omega) (by omega) (by simp; omega) ?_; intro v' w2 hown' hgrow _)
        obtain ⟨R', c', rfl⟩ := own_slice hown'
        have HB3 := Lib.hid (below_own ((HB.out.alloc hsz _).alloc (by simp; omega) _) ((HO.out.alloc _).alloc _) (by simp; omega) hgrow)
        have HO3 := Lib.hid hown'
        clear hown' hgrow
        go_roundw
        case rel =>
          refine ⟨k + 1, R', c', by omega, by go_num, by go_num, ?_, HB3.out⟩
          rw [take_snocP ps k hlt, HP.out]
          have e : partCells (ps.take k ++ [(W, V)]) = partCells (ps.take k) ++ [.int .i64 W, .int .u64 (V : Int)] := by simp [partCells]
          rw [e]
          exact HO3.out
        case measure => simp [intOf]; omega
      · obtain rfl : k = ps.length := by omega
        rw [List.take_length] at hown
        have hsz := hb.size
        have hR := Rd.of_own hown
        have HB := Lib.hid hb; clear hb
        have HO := Lib.hid hown; clear hown
        have HRA := Lib.hid (HA.out.below HB.out)
        have HR := Lib.hid hR; clear hR
        go_wp2_with fail
        refine (pack_any ps A c wr (by omega) (HRA.out.more hsz) HV.out).mono ?_
        rintro e w1 ⟨rfl, hb1⟩
        have HR1 := Lib.hid ((HR.out.below hb1).more hb1.size)
        have HB1 := Lib.hid (HB.out.trans (hb1.mono hsz))
        have hsz1 := hb1.size
        clear hb1
        go_wp2_with fail
        refine (rpack_any ps R rc w1 (by omega) HR1.out HV.out).mono ?_
        rintro e w2 ⟨rfl, hb2⟩
        have HB2 := Lib.hid (HB1.out.trans (hb2.mono (by omega)))
        have hsz2 := hb2.size
        clear hb2
        go_wp2_with fail
        refine (awake1 w2).mono ?_
        rintro e w3 ⟨rfl, hb3⟩
        have HB3 := Lib.hid (HB2.out.trans (hb3.mono (by omega)))
        clear hb3
        go_wp2
        go_ret
        exact ⟨rfl, HB3.out⟩
end Go.Proofs.Ytkhaoclpomamlaa.Lw
