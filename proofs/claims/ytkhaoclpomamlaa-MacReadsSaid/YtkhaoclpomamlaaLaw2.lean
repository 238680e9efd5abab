/-
  The statement FieldSplits: its walk.
-/
import Derived.Test.YtkhaoclpomamlaaLaw1
import Derived.Test.YtkhaoclpomamlaaRef3
namespace Go.Proofs.Ytkhaoclpomamlaa.Lw
open Go.RowKit Go.Proofs.Ytkhaoclpomamlaa.Bt Go.Proofs.Ytkhaoclpomamlaa.Mm Go.Proofs.Ytkhaoclpomamlaa.Fl Go.Proofs.Ytkhaoclpomamlaa.Rf

def SplitAt (vs : List Nat) (r : ByteArray) (k : Nat) (w : World) (e : Ending) (w' : World) : Prop :=
  ∃ A c, e = .returned (.tuple #[.slice A vs.length c, .string r, .int .i64 (k : Nat)]) ∧ Rd w' w'.heap.size A (nums .u64 vs) ∧ Below w.heap.size w w'
theorem split_at {vs : List Nat} {r : ByteArray} {k : Nat} (s : ByteArray) (zs : List Int) (A : Option Addr) (c : Nat) (w : World) (h : splitR s zs = (vs, r, k)) (hs : s.size ≤ maxLen) (hn : zs.length ≤ 100000) (hA : Rd w w.heap.size A (ints zs)) :
    Calls Try.prog 12 #[.string s, .slice A zs.length c] w (SplitAt vs r k w) :=
  (split_any s zs A c w hs hn hA).mono fun e w' ⟨A', c', h1, h2, h3⟩ => by
    rw [h] at h1 h2
    exact ⟨A', c', h1, h2, h3⟩
theorem rsplit_at {vs : List Nat} {r : ByteArray} {k : Nat} (s : ByteArray) (zs : List Int) (A : Option Addr) (c : Nat) (w : World) (h : splitR s zs = (vs, r, k)) (hs : s.size ≤ maxLen) (hn : zs.length ≤ 100000) (hA : Rd w w.heap.size A (ints zs)) :
    Calls Try.prog 13 #[.string s, .slice A zs.length c] w (SplitAt vs r k w) :=
  (rsplit_any s zs A c w hs hn hA).mono fun e w' ⟨A', c', h1, h2, h3⟩ => by
    rw [h] at h1 h2
    exact ⟨A', c', h1, h2, h3⟩

set_option maxHeartbeats 400000 in
theorem numbers_same (l : List Nat) (A B : Option Addr) (c d : Nat) (w : World) (hl : l.length ≤ 100000) (hA : Rd w w.heap.size A (nums .u64 l)) (hB : Rd w w.heap.size B (nums .u64 l)) :
    Calls Try.prog 14 #[.slice A l.length c, .slice B l.length d] w fun e w' => e = .returned (.bool true) ∧ Below w.heap.size w w' := by
  have HA := Lib.hid hA; clear hA
  have HB := Lib.hid hB; clear hB
  have hne : ((l.length : Int) != (l.length : Int)) = false := by simp
  go_enter Try.func14, Try.ntmps14
  go_wp2
  go_loopw [13] (fun i wr => ∃ k : Nat, k ≤ l.length ∧ i = .int .i64 k ∧ Below w.heap.size w wr) (fun i _ => l.length - (intOf i).toNat)
  case atStart => exact ⟨0, Nat.zero_le _, rfl, Below.refl _ _⟩
  case round =>
    obtain ⟨k, hk, rfl, hb⟩ := hrel
    by_cases hlt : k < l.length
    · obtain ⟨a, rfl, ha, hac⟩ := (HA.out.below hb) (by rw [length_nums]; omega)
      obtain ⟨b, rfl, hbb, hbc⟩ := (HB.out.below hb) (by rw [length_nums]; omega)
      have c0 := hac _ _ (get_nums .u64 l k hlt)
      have c1 := hbc _ _ (get_nums .u64 l k hlt)
      clear hac hbc
      generalize l.getD k 0 = x at c0 c1
      have HBw := Lib.hid hb; clear hb
      have hx : ((x : Int) != (x : Int)) = false := by simp
      go_wp2
      go_quiet (fail)
      go_wp2
      go_roundw
      case rel => exact ⟨k + 1, by omega, by go_num, below_drewN HBw.out _⟩
      case measure => simp [intOf]; omega
    · have HBw := Lib.hid hb; clear hb
      go_wp2
      go_ret
      exact ⟨rfl, HBw.out⟩

theorem noughts_b (b : Bool) (s : ByteArray) (w : World) (h : zeros s.data.toList = b) (hs : s.size ≤ maxLen) :
    Calls Try.prog 15 #[.string s] w fun e w' => e = .returned (.bool b) ∧ w = w' := by
  subst h; exact noughts_any s w hs

set_option maxHeartbeats 1000000 in
theorem splits_walk (s : ByteArray) (zs : List Int) (A : Option Addr) (c : Nat) (w : World) (hs : s.size ≤ maxLen) (hm : zs.length ≤ maxLen) (hA : Rd w w.heap.size A (ints zs)) (_hB : ∀ z ∈ zs, (Lit.int .i64 z).wf = true) :
    Calls Try.prog 4 #[.string s, .slice A zs.length c] w (Law1 w) := by
  clear _hB
  unfold maxLen at hm hs
  have HA := Lib.hid hA; clear hA
  by_cases h1 : 600 < s.size
  · go_enter Try.func4, Try.ntmps4
    go_wp2_with fail
    refine (awake1 w).mono ?_
    rintro e w1 ⟨rfl, hb⟩
    have HB := Lib.hid hb; clear hb
    go_wp2
    go_ret
    exact ⟨rfl, HB.out⟩
  by_cases h2 : 60 < zs.length
  · have hl2 : decide ((600 : Int) < (s.size : Int)) = false := by simp; omega
    go_enter Try.func4, Try.ntmps4
    go_wp2_with fail
    refine (awake1 w).mono ?_
    rintro e w1 ⟨rfl, hb⟩
    have HB := Lib.hid hb; clear hb
    go_wp2
    go_ret
    exact ⟨rfl, HB.out⟩
  have hl2 : decide ((600 : Int) < (s.size : Int)) = false := by simp; omega
  have hl3 : decide ((60 : Int) < (zs.length : Int)) = false := by simp; omega
  obtain ⟨vs, r, k, hsp⟩ : ∃ vs r k, splitR s zs = (vs, r, k) := ⟨_, _, _, rfl⟩
  have hvl : vs.length ≤ 60 := by
    have : (splitR s zs).1.length ≤ zs.length := by
      unfold splitR
      split
      · split
        · split
          · simp [valsOf]
          · simp
        · simp
      · simp
    rw [hsp] at this
    simp only at this
    omega
  have HS := Lib.hid hsp; clear hsp
  go_enter Try.func4, Try.ntmps4
  go_wp2_with fail
  refine (split_at s zs A c w HS.out (by unfold maxLen; omega) (by omega) HA.out).mono ?_
  rintro e w1 ⟨A1, c1, rfl, hr1, hb1⟩
  have hz1 := hb1.size
  have HR1 := Lib.hid hr1; clear hr1
  have HB1 := Lib.hid hb1; clear hb1
  go_wp2_with fail
  refine (rsplit_at s zs A c w1 HS.out (by unfold maxLen; omega) (by omega) ((HA.out.below HB1.out).more hz1)).mono ?_
  rintro e w2 ⟨A2, c2, rfl, hr2, hb2⟩
  have hz2 := hb2.size
  have HR1' := Lib.hid ((HR1.out.below hb2).more hz2)
  have HR2 := Lib.hid hr2; clear hr2
  have HB2 := Lib.hid (HB1.out.trans (hb2.mono hz1))
  clear hb2
  go_wp2_with fail
  go_loop [11, 38] (fun z i => ∃ j : Nat, j ≤ s.size ∧ i = .int .i64 j ∧ z = .bool (zeros (s.data.toList.take j))) (fun _ i => s.size - (intOf i).toNat)
  case atStart => exact ⟨0, Nat.zero_le _, rfl, rfl⟩
  case round =>
    obtain ⟨j, hj, rfl, rfl⟩ := hrel
    by_cases hlt : j < s.size
    · have hsn : zeros (s.data.toList.take (j + 1)) = (zeros (s.data.toList.take j) && s[j] == 0) := by rw [take_snoc s j hlt, zeros_snoc]
      have HSN := Lib.hid hsn; clear hsn
      have hc : (((s[j].toNat : Nat) : Int) == 0) = (s[j] == 0) := by
        rw [Bool.eq_iff_iff]
        simp only [beq_iff_eq]
        constructor
        · intro h; exact UInt8.toNat_inj.1 (by simpa using h)
        · intro h; rw [h]; rfl
      have HC := Lib.hid hc; clear hc
      generalize zeros (s.data.toList.take j) = b at *
      cases b
      all_goals
        go_wp2
        go_round
        case rel => exact ⟨j + 1, by omega, by go_num, by rw [HSN.out, ← HC.out]; rfl⟩
        case measure => simp [intOf]; omega
    · have hfin : s.data.toList.take j = s.data.toList := List.take_of_length_le (by rw [size_list]; omega)
      rw [hfin]
      clear hfin
      generalize hzz : zeros s.data.toList = b
      have HZ := Lib.hid hzz; clear hzz
      go_wp2_with fail
      refine (awake1 w2).mono ?_
      rintro e w3 ⟨rfl, hb3⟩
      have hz3 := hb3.size
      have HR1'' := Lib.hid ((HR1'.out.below hb3).more hz3)
      have HR2' := Lib.hid ((HR2.out.below hb3).more hz3)
      have HB3 := Lib.hid (HB2.out.trans (hb3.mono (by omega)))
      clear hb3
      go_wp2_with fail
      refine (numbers_same vs A1 A2 c1 c2 w3 (by omega) HR1''.out HR2'.out).mono ?_
      rintro e w4 ⟨rfl, hb4⟩
      have HB4 := Lib.hid (HB3.out.trans (hb4.mono (by omega)))
      clear hb4
      go_wp2_with fail
      refine (noughts_b b s w4 HZ.out (by unfold maxLen; omega)).mono ?_
      rintro e w5 ⟨rfl, rfl⟩
      have hbb : (b == b) = true := by simp
      go_wp2
      go_ret
      exact ⟨rfl, HB4.out⟩
end Go.Proofs.Ytkhaoclpomamlaa.Lw
