/-
  Contract of field's Split.
-/
import Derived.Test.YtflofehnclaffaaField3
import Derived.Deep.QuietTactic
import Derived.BigQuiet
namespace Go.Proofs.Ytflofehnclaffaa.Fl
open Go.RowKit Go.Proofs.Ytflofehnclaffaa.Bt Go.Proofs.Ytflofehnclaffaa.Mm

def ints (zs : List Int) : List Value := zs.map (Value.int .i64)
def okW (z : Int) : Bool := decide (1 ≤ z ∧ z ≤ 64)
def tot (zs : List Int) : Nat := (zs.map Int.toNat).sum
/-- the values of parts of such widths -/
def valsOf (s : ByteArray) (zs : List Int) : List Nat := (List.range zs.length).map fun i => getB s (tot (zs.take i)) (zs.getD i 0).toNat
/-- what Split answers -/
def splitR (s : ByteArray) (zs : List Int) : List Nat × ByteArray × Nat :=
  if zs.all okW = true then (if tot zs % 8 = 0 then (if tot zs / 8 ≤ s.size then (valsOf s zs, s.extract (tot zs / 8) s.size, 0) else ([], ⟨#[]⟩, 1)) else ([], ⟨#[]⟩, 3)) else ([], ⟨#[]⟩, 4)
def SplitPost (s : ByteArray) (zs : List Int) (w : World) (e : Ending) (w' : World) : Prop :=
  ∃ A c, e = .returned (.tuple #[.slice A (splitR s zs).1.length c, .string (splitR s zs).2.1, .int .i64 ((splitR s zs).2.2 : Nat)]) ∧ Rd w' w'.heap.size A (nums .u64 (splitR s zs).1) ∧ Below w.heap.size w w'
theorem length_ints (zs : List Int) : (ints zs).length = zs.length := by simp [ints]
theorem get_ints (zs : List Int) (k : Nat) (h : k < zs.length) : (ints zs)[k]? = some (.int .i64 zs[k]) := by simp [ints, h]
theorem tot_append (a b : List Int) : tot (a ++ b) = tot a + tot b := by simp [tot]
theorem tot_snoc (zs : List Int) (k : Nat) (h : k < zs.length) : tot (zs.take (k + 1)) = tot (zs.take k) + zs[k].toNat := by
  rw [List.take_succ_eq_append_getElem h, tot_append]
  simp [tot]
theorem all_snocW (zs : List Int) (k : Nat) (h : k < zs.length) (ha : (zs.take k).all okW = true) (hb : okW zs[k] = true) : (zs.take (k + 1)).all okW = true := by
  rw [List.take_succ_eq_append_getElem h, List.all_append, ha]
  simp [hb]
theorem tot_le (zs : List Int) (k : Nat) (h : (zs.take k).all okW = true) : tot (zs.take k) ≤ 64 * k := by
  induction k with
  | zero => simp [tot]
  | succ k ih =>
    rcases Nat.lt_or_ge k zs.length with hk | hk
    · have h' := h
      rw [List.take_succ_eq_append_getElem hk, List.all_append, Bool.and_eq_true] at h'
      have h2 : okW zs[k] = true := by simpa using h'.2
      have := ih h'.1
      have h3 := of_decide_eq_true h2
      rw [tot_snoc zs k hk]
      omega
    · rw [List.take_of_length_le (by omega)] at h ⊢
      have := ih (by rw [List.take_of_length_le (by omega)]; exact h)
      rw [List.take_of_length_le (by omega)] at this
      omega
theorem tot_mono (zs : List Int) (k : Nat) (h : k < zs.length) : tot (zs.take k) + zs[k].toNat ≤ tot zs := by
  rw [← tot_snoc zs k h]
  conv => rhs; rw [← List.take_append_drop (k + 1) zs, tot_append]
  omega
theorem splitR_bad (s : ByteArray) (zs : List Int) (k : Nat) (h : k < zs.length) (hb : okW zs[k] = false) : splitR s zs = ([], ⟨#[]⟩, 4) := by
  unfold splitR
  rw [if_neg]
  intro hall
  rw [List.all_eq_true] at hall
  rw [hall _ (List.getElem_mem h)] at hb
  cases hb
theorem info_u64 : (Try.prog.info? 41).map (fun i => (i.zero, i.size, i.bytes)) = some (some (.int .u64 0), 1, 8) := by kernel_rfl
/-- of the values those that have been told -/
def firsts (s : ByteArray) (zs : List Int) (k i : Nat) : Nat := if i < k then getB s (tot (zs.take i)) (zs.getD i 0).toNat else 0
theorem firsts_step (s : ByteArray) (zs : List Int) (n k : Nat) (hk : k < zs.length) : (numCells .u64 n (firsts s zs k)).setIfInBounds k (.int .u64 ((getB s (tot (zs.take k)) zs[k].toNat : Nat) : Int)) = numCells .u64 n (firsts s zs (k + 1)) := by
  refine put_numCells .u64 n _ _ _ _ ?_ ?_
  · unfold firsts
    rw [if_pos (by omega)]
    simp [hk]
  · intro i hi
    unfold firsts
    by_cases e : i < k
    · rw [if_pos e, if_pos (by omega)]
    · rw [if_neg e, if_neg (by omega)]

set_option maxHeartbeats 1000000 in
theorem split_any (s : ByteArray) (zs : List Int) (A : Option Addr) (c : Nat) (w : World) (hs : s.size ≤ maxLen) (hn : zs.length ≤ 100000) (hA : Rd w w.heap.size A (ints zs)) :
    Calls Try.prog 15 #[.string s, .slice A zs.length c] w (SplitPost s zs w) := by
  unfold maxLen at hs
  have HA := Lib.hid hA; clear hA
  go_enter Try.func15, Try.ntmps15
  go_wp2
  go_loop [7, 17] (fun t i => ∃ k : Nat, k ≤ zs.length ∧ i = .int .i64 k ∧ t = .int .i64 (tot (zs.take k) : Nat) ∧ (zs.take k).all okW = true) (fun _ i => zs.length - (intOf i).toNat)
  case atStart => exact ⟨0, Nat.zero_le _, rfl, rfl, rfl⟩
  case round =>
    obtain ⟨k, hk, rfl, rfl, hall⟩ := hrel
    have hle := tot_le zs k hall
    have HL := Lib.hid hall; clear hall
    by_cases hlt : k < zs.length
    · obtain ⟨ad, rfl, hbl, hcell⟩ := HA.out (by rw [length_ints]; omega)
      have c0 := hcell _ _ (get_ints zs k hlt)
      clear hcell
      generalize hp : zs[k] = W at c0
      have HP := Lib.hid hp; clear hp
      by_cases h1 : 1 ≤ W ∧ W ≤ 64
      · obtain ⟨ha1, ha2⟩ := h1
        have HO := Lib.hid (show okW W = true from decide_eq_true ⟨ha1, ha2⟩)
        obtain ⟨Wn, rfl⟩ := Int.eq_ofNat_of_zero_le (show 0 ≤ W by omega)
        go_wp2_with (go_at_call 16; refine (may_yes _ _ (by omega) (by omega)).mono ?_; rintro e w' ⟨rfl, rfl⟩)
        go_round
        case rel =>
          refine ⟨k + 1, by omega, by go_num, ?_, all_snocW zs k hlt HL.out (by rw [HP.out]; exact HO.out)⟩
          rw [tot_snoc zs k hlt, HP.out]
          go_num
        case measure => simp [intOf]; omega
      · have HO := Lib.hid (show okW W = false from decide_eq_false (by omega))
        have h1' : W < 1 ∨ 64 < W := by omega
        clear h1
        go_wp2_with (go_at_call 16; refine (may_no _ _ h1').mono ?_; rintro e w' ⟨rfl, rfl⟩)
        go_ret3
        refine ⟨none, 0, ?_, ?_, Below.refl _ _⟩
        · rw [splitR_bad s zs k hlt (by rw [HP.out]; exact HO.out)]; rfl
        · rw [splitR_bad s zs k hlt (by rw [HP.out]; exact HO.out)]; exact Rd.none _ _ _
    · obtain rfl : k = zs.length := by omega
      rw [List.take_length] at hle HL
      simp only [List.take_length]
      obtain ⟨T, hT⟩ : ∃ T, T = tot zs := ⟨_, rfl⟩
      rw [← hT] at hle ⊢
      have HT := Lib.hid hT; clear hT
      by_cases h8 : T % 8 = 0
      · have ht : ((T : Int) % 8 != 0) = false := by simp; omega
        by_cases hsh : T / 8 ≤ s.size
        · have hf : decide (s.size < T / 8) = false := by simp; omega
          have HR := Lib.hid (show splitR s zs = (valsOf s zs, s.extract (T / 8) s.size, 0) by unfold splitR; rw [if_pos HL.out, ← HT.out, if_pos h8, if_pos hsh])
          have hT8 : T ≤ 8 * s.size := by omega
          clear h8
          obtain ⟨i0, hi, hz0, hz1, hz2⟩ := info_parts info_u64
          have hmk : (Instr.makeSlice 45 (.int .i64 (zs.length : Int)) (.int .i64 (zs.length : Int))).run Try.prog w =
              .ok (.slice (some ⟨w.heap.size, 0, none⟩) zs.length zs.length) (w.alloc (.cells (numCells .u64 zs.length (firsts s zs 0)) 41)) := by
            have h := run_make (P := Try.prog) w 45 41 i0 (.int .u64 0) Try.underlying45 hi hz0 .i64 .i64 (zs.length : Int) (zs.length : Int) (by omega) (Int.le_refl _) (by rw [hz2]; omega) (by omega)
            rw [show ((zs.length : Nat) : Int).toNat = zs.length by omega, hz1, made_nums, numCells_congr (g := firsts s zs 0) (fun i hi => by unfold firsts; rw [if_neg (by omega)])] at h
            exact h
          go_wp2
          clear hmk
          go_loopw [12, 42] (fun t i wr => ∃ k : Nat, k ≤ zs.length ∧ i = .int .i64 k ∧ t = .int .i64 (tot (zs.take k) : Nat) ∧ Blk wr w.heap.size 41 (numCells .u64 zs.length (firsts s zs k)) ∧ Below w.heap.size w wr) (fun _ i _ => zs.length - (intOf i).toNat)
          case atStart => exact ⟨0, Nat.zero_le _, rfl, rfl, Blk.fresh _ _ _, (Below.refl _ _).alloc (Nat.le_refl _) _⟩
          case round =>
            obtain ⟨k, hk, rfl, rfl, hg, hb⟩ := hrel
            by_cases hlt : k < zs.length
            · obtain ⟨ad, rfl, hbl, hcell⟩ := (HA.out.below hb) (by rw [length_ints]; omega)
              have c0 := hcell _ _ (get_ints zs k hlt)
              clear hcell
              have hok := of_decide_eq_true (List.all_eq_true.1 HL.out _ (List.getElem_mem hlt))
              have hto := tot_mono zs k hlt
              rw [← HT.out] at hto
              have htn := tot_snoc zs k hlt
              have hst := firsts_step s zs zs.length k hlt
              have c1 := hg.cell k
              rw [get_numCells _ _ _ _ hlt] at c1
              have c2 := hg.frozen k
              generalize hp : zs[k] = W at c0 hok hto htn hst
              clear hp
              obtain ⟨Wn, rfl⟩ := Int.eq_ofNat_of_zero_le (show 0 ≤ W by omega)
              simp only [Int.toNat_natCast] at hto htn hst
              have HTN := Lib.hid htn; clear htn
              have HST := Lib.hid hst; clear hst
              have HG := Lib.hid hg; clear hg
              have HB := Lib.hid hb; clear hb
              obtain ⟨ha1, ha2⟩ := hok
              go_wp2_with (go_at_call 18; refine (getBits_any s _ _ _ (by unfold maxLen; omega) (by omega) (by omega) (by omega)).mono ?_; rintro e w' ⟨rfl, rfl⟩)
              go_roundw
              case rel =>
                refine ⟨k + 1, by omega, by go_num, by rw [HTN.out]; go_num, ?_, HB.out.setCell (Nat.le_refl _) _⟩
                have h1 := HG.out.put k (.int .u64 ((getB s (tot (zs.take k)) Wn : Nat) : Int))
                rw [HST.out] at h1
                exact h1
              case measure => simp [intOf]; omega
            · obtain rfl : k = zs.length := by omega
              have HG := Lib.hid hg; clear hg
              have HB := Lib.hid hb; clear hb
              have hq : (T : Int) / 8 ≤ (s.size : Int) := by omega
              go_wp2
              go_quiet (fail)
              go_wp2
              go_ret3
              have hv : (valsOf s zs).length = zs.length := by simp [valsOf]
              refine ⟨some ⟨w.heap.size, 0, none⟩, zs.length, by rw [HR.out, hv]; rfl, ?_, below_drewN HB.out nq⟩
              rw [HR.out]
              refine rd_nums hv.symm (fun i hi => ?_) (HG.out.drewN nq)
              unfold firsts
              rw [if_pos hi]
              simp [valsOf, hi]
        · have hf : decide (s.size < T / 8) = true := by simp; omega
          have HR := Lib.hid (show splitR s zs = ([], ⟨#[]⟩, 1) by unfold splitR; rw [if_pos HL.out, ← HT.out, if_pos h8, if_neg hsh])
          clear h8
          go_wp2
          go_ret3
          exact ⟨none, 0, by rw [HR.out]; rfl, by rw [HR.out]; exact Rd.none _ _ _, Below.refl _ _⟩
      · have ht : ((T : Int) % 8 != 0) = true := by simp; omega
        have HR := Lib.hid (show splitR s zs = ([], ⟨#[]⟩, 3) by unfold splitR; rw [if_pos HL.out, ← HT.out, if_neg h8])
        clear h8
        go_wp2
        go_ret3
        exact ⟨none, 0, by rw [HR.out]; rfl, by rw [HR.out]; exact Rd.none _ _ _, Below.refl _ _⟩
end Go.Proofs.Ytflofehnclaffaa.Fl
