/-
  Contracts of the document's bits and Pack.
  Contract of the document's Pack.
  Contract of the document's Split.
-/
import Derived.Test.YtlbnigdindpnfaaFld
import Derived.Maps.AppendAt
import Derived.Deep.RegionWith
import Derived.StillTailTactics
import Derived.Deep.RegionHeld3
namespace Go.Proofs.Ytlbnigdindpnfaa.Rf
open Go.RowKit Go.Proofs.Ytlbnigdindpnfaa.Bt Go.Proofs.Ytlbnigdindpnfaa.Mm Go.Proofs.Ytlbnigdindpnfaa.Fl

theorem info_int : (Try.prog.info? 3).map (fun i => (i.zero, i.size, i.bytes)) = some (some (.int .i64 0), 1, 8) := by kernel_rfl
/-- of the bits those that have been told, from the last on -/
def low (v n j i : Nat) : Nat := if n ≤ i + j then v / 2 ^ (n - 1 - i) % 2 else 0
theorem low_step (v n j : Nat) (h : j < n) : (numCells .i64 n (low v n j)).setIfInBounds (n - 1 - j) (.int .i64 ((v / 2 ^ j % 2 : Nat) : Int)) = numCells .i64 n (low v n (j + 1)) := by
  refine put_numCells .i64 n _ _ _ _ ?_ ?_
  · unfold low
    rw [if_pos (by omega), show n - 1 - (n - 1 - j) = j by omega]
  · intro i hi
    unfold low
    by_cases e : n ≤ i + j
    · rw [if_pos e, if_pos (by omega)]
    · rw [if_neg e, if_neg (by omega)]

set_option maxRecDepth 100000 in
set_option maxHeartbeats 400000 in
theorem bits_any (v n : Nat) (w : World) (hv : v < 18446744073709551616) (hn : n ≤ 64) :
    Calls Try.prog 44 #[.int .u64 v, .int .i64 n] w fun e w' => e = .returned (.tuple #[.slice (some ⟨w.heap.size, 0, none⟩) n n, .bool (decide (v < 2 ^ n))]) ∧
      Blk w' w.heap.size 3 (numCells .i64 n (nth (bitsN v n))) ∧ Below w.heap.size w w' := by
  obtain ⟨i0, hi, hz0, hz1, hz2⟩ := info_parts info_int
  have hmk : (Instr.makeSlice 79 (.int .i64 (n : Int)) (.int .i64 (n : Int))).run Try.prog w =
      .ok (.slice (some ⟨w.heap.size, 0, none⟩) n n) (w.alloc (.cells (numCells .i64 n (low v n 0)) 3)) := by
    have h := run_make (P := Try.prog) w 79 3 i0 (.int .i64 0) Try.underlying79 hi hz0 .i64 .i64 (n : Int) (n : Int) (by omega) (Int.le_refl _) (by rw [hz2]; omega) (by omega)
    rw [show (n : Int).toNat = n by omega, hz1, made_nums, numCells_congr (g := low v n 0) (fun i hi => by unfold low; rw [if_neg (by omega)])] at h
    exact h
  go_enter Try.func44, Try.ntmps44
  go_wp2
  go_loopw [0, 7] (fun x i wr => ∃ j : Nat, j ≤ n ∧ i = .int .i64 ((n : Int) - 1 - j) ∧ x = .int .u64 (v / 2 ^ j : Nat) ∧ Blk wr w.heap.size 3 (numCells .i64 n (low v n j)) ∧ Below w.heap.size w wr) (fun _ i _ => (intOf i + 1).toNat)
  case atStart => exact ⟨0, Nat.zero_le _, by go_num, by simp, Blk.fresh _ _ _, (Below.refl _ _).alloc (Nat.le_refl _) _⟩
  case round =>
    obtain ⟨j, hj, rfl, rfl, hg, hb⟩ := hrel
    have hvj : v / 2 ^ j ≤ v := Nat.div_le_self _ _
    have hstep : v / 2 ^ (j + 1) = v / 2 ^ j / 2 := by rw [Nat.pow_succ, Nat.div_div_eq_div_mul]
    have hfin : decide (v < 2 ^ j) = ((v / 2 ^ j : Nat) == (0 : Int)) := by
      rw [Bool.eq_iff_iff]
      simp only [decide_eq_true_eq, beq_iff_eq]
      have := Nat.two_pow_pos j
      constructor
      · intro h
        rw [Nat.div_eq_of_lt h]; rfl
      · intro h
        rcases Nat.lt_or_ge v (2 ^ j) with h2 | h2
        · exact h2
        · have := Nat.div_pos h2 this; omega
    have HF := Lib.hid hfin; clear hfin
    have hst2 : j < n → (numCells .i64 n (low v n j)).setIfInBounds (n - 1 - j) (.int .i64 ((v / 2 ^ j % 2 : Nat) : Int)) = numCells .i64 n (low v n (j + 1)) := low_step v n j
    generalize v / 2 ^ j = x at *
    have HS := Lib.hid hstep; clear hstep
    have HL := Lib.hid hst2; clear hst2
    by_cases hlt : j < n
    · have c1 := hg.cell (n - 1 - j)
      rw [get_numCells _ _ _ _ (by omega)] at c1
      have c2 := hg.frozen (n - 1 - j)
      have HG := Lib.hid hg; clear hg
      have HB := Lib.hid hb; clear hb
      have hge : (0 : Int) ≤ (n : Int) - 1 - j := by omega
      go_wp2
      go_roundw
      case rel =>
        refine ⟨j + 1, by omega, by go_num, by rw [HS.out]; go_num, ?_, HB.out.setCell (Nat.le_refl _) _⟩
        have h1 := HG.out.put (n - 1 - j) (.int .i64 ((x % 2 : Nat) : Int))
        rw [HL.out hlt] at h1
        exact h1
      case measure => simp [intOf]; omega
    · obtain rfl : j = n := by omega
      have HG := Lib.hid hg; clear hg
      have HB := Lib.hid hb; clear hb
      clear hmk
      go_wp2
      go_ret2
      refine ⟨ret_tup (by rw [HF.out]; rfl), ?_, HB.out⟩
      rw [← numCells_congr (kd := .i64) (m := j) (f := low v j j) (fun i hi => by unfold low; rw [if_pos (by omega), nth_bitsN _ _ _ hi])]
      exact HG.out
end Go.Proofs.Ytlbnigdindpnfaa.Rf
namespace Go.Proofs.Ytlbnigdindpnfaa.Rf
open Go.RowKit Go.Proofs.Ytlbnigdindpnfaa.Bt Go.Proofs.Ytlbnigdindpnfaa.Mm Go.Proofs.Ytlbnigdindpnfaa.Fl

theorem bits_b (b : Bool) (v n : Nat) (w : World) (hb : decide (v < 2 ^ n) = b) (hv : v < 18446744073709551616) (hn : n ≤ 64) :
    Calls Try.prog 44 #[.int .u64 v, .int .i64 n] w fun e w' => e = .returned (.tuple #[.slice (some ⟨w.heap.size, 0, none⟩) n n, .bool b]) ∧
      Blk w' w.heap.size 3 (numCells .i64 n (nth (bitsN v n))) ∧ Below w.heap.size w w' := by
  subst hb; exact bits_any v n w hv hn

theorem bytesOf_next (l : List Nat) (q : Nat) (h : 8 * q + 8 ≤ l.length) (hl : Bin l) : byteVals ((bytesOf l).take (q + 1)) = byteVals ((bytesOf l).take q) ++ [.int .u8 ((val ((l.drop (8 * q)).take 8) : Nat) : Int)] := by
  have hq : q < (bytesOf l).length := by rw [length_bytesOf]; omega
  have e8 : ((l.drop (8 * q)).take 8).length = 8 := by simp; omega
  have hb : val ((l.drop (8 * q)).take 8) = byteF (nth l) q := by
    rw [byte_val _ e8]
    unfold byteF
    simp only [nth_take _ _ _ (show 8 * 0 + 0 < 8 by omega), nth_take _ _ _ (show 8 * 0 + 1 < 8 by omega), nth_take _ _ _ (show 8 * 0 + 2 < 8 by omega), nth_take _ _ _ (show 8 * 0 + 3 < 8 by omega), nth_take _ _ _ (show 8 * 0 + 4 < 8 by omega), nth_take _ _ _ (show 8 * 0 + 5 < 8 by omega), nth_take _ _ _ (show 8 * 0 + 6 < 8 by omega), nth_take _ _ _ (show 8 * 0 + 7 < 8 by omega), nth_drop]
  rw [List.take_succ_eq_append_getElem hq]
  have e : (bytesOf l)[q] = UInt8.ofNat (byteF (nth l) q) := by simp [bytesOf]
  rw [e, hb]
  unfold byteVals
  rw [List.map_append, List.map_singleton, ofNat_toNat _ (byteF_lt (fun i => nth_lt hl i) q)]

set_option maxRecDepth 100000 in
set_option maxHeartbeats 1000000 in
theorem rpack_any (ps : List (Int × Nat)) (A : Option Addr) (c : Nat) (w : World) (hn : ps.length ≤ 100000) (hA : Rd w w.heap.size A (partCells ps)) (hv : ∀ p ∈ ps, p.2 < 18446744073709551616) :
    Calls Try.prog 43 #[.slice A ps.length c] w fun e w' => e = .returned (.tuple #[.string ⟨(packR ps).1.toArray⟩, .int .i64 ((packR ps).2 : Nat)]) ∧ Below w.heap.size w w' := by
  have HA := Lib.hid hA; clear hA
  have HV := Lib.hid hv; clear hv
  obtain ⟨i0, hi, hz0, hz1, hz2⟩ := info_parts info_int
  go_enter Try.func43, Try.ntmps43
  go_wp2
  go_loopw [4, 5] (fun v i wr => ∃ (k : Nat) (R : Option Addr) (rc : Nat), k ≤ ps.length ∧ i = .int .i64 k ∧ v = .slice R (allBits (ps.take k)).length rc ∧ (ps.take k).all okP = true ∧
      wr.ownsRow w.heap.size 3 1 (.slice R (allBits (ps.take k)).length rc) (allBits (ps.take k)).length (nums .i64 (allBits (ps.take k))) ∧ Below w.heap.size w wr) (fun _ i _ => ps.length - (intOf i).toNat)
  case atStart => exact ⟨0, none, 0, Nat.zero_le _, rfl, rfl, rfl, World.ownsRow_nil _ _ _ _, Below.refl _ _⟩
  case round =>
    obtain ⟨k, R, rc, hk, rfl, rfl, hall, hown, hb⟩ := hrel
    have hle := len_take_le ps k hall
    have HL := Lib.hid hall; clear hall
    by_cases hlt : k < ps.length
    · have hc := get_partCells ps k hlt
      obtain ⟨ad, rfl, hbl, hcell⟩ := (HA.out.below hb) (by rw [length_partCells]; omega)
      have c0 := hcell _ _ hc.1
      have c1 := hcell _ _ hc.2
      rw [add_succ] at c1
      clear hcell hc
      have hsz := hb.size
      have HBw := Lib.hid hb; clear hb
      have HW := Lib.hid hown; clear hown
      have hv2 := HV.out _ (List.getElem_mem hlt)
      generalize hp : ps[k] = p at c0 c1 hv2
      obtain ⟨W, V⟩ := p
      have HP := Lib.hid hp; clear hp
      simp only at c0 c1 hv2
      by_cases h1 : W < 1
      · have HO := Lib.hid (show okP (W, V) = false from decide_eq_false (by simp only; omega))
        go_wp2
        go_ret2
        exact ⟨ret_tup (by rw [packR_bad ps k hlt (by rw [HP.out]; exact HO.out)]; rfl), HBw.out⟩
      by_cases h2 : 64 < W
      · have HO := Lib.hid (show okP (W, V) = false from decide_eq_false (by simp only; omega))
        go_wp2
        go_ret2
        exact ⟨ret_tup (by rw [packR_bad ps k hlt (by rw [HP.out]; exact HO.out)]; rfl), HBw.out⟩
      obtain ⟨Wn, rfl⟩ := Int.eq_ofNat_of_zero_le (show 0 ≤ W by omega)
      by_cases h3 : V < 2 ^ Wn
      · have HO := Lib.hid (show okP ((Wn : Int), V) = true from decide_eq_true ⟨by simp only; omega, by simp only; omega, by simpa using h3⟩)
        have hd : decide (V < 2 ^ Wn) = true := decide_eq_true h3
        have HD := Lib.hid hd
        clear h3 hd
        have hlo : (ad.add (k * 2)).block < wr.heap.size := by rw [block_add]; omega
        go_wp2_with fail
        go_region_held3 (fun w' => w'.cell? (ad.add (k * 2)) = some (.int .i64 (Wn : Int)) ∧ w'.cell? ⟨(ad.add (k * 2)).block, (ad.add (k * 2)).off + 1, none⟩ = some (.int .u64 (V : Int))) (first | exact ⟨c0, c1⟩ | exact ⟨d0, d1⟩)
          (first | (go_at_call 44; refine (bits_b true V Wn _ HD.out hv2 (by omega)).mono ?_; rintro e w1 ⟨rfl, hg1, hb1⟩; have d0 := (hb1.cell (p := ad.add (k * 2)) hlo).trans c0; have d1 := (hb1.cell (p := ⟨(ad.add (k * 2)).block, (ad.add (k * 2)).off + 1, none⟩) hlo).trans c1))
        have HO1 := Lib.hid (own_below (own_drew HW.out) hb1)
        have HN1 := Lib.hid (blk_nums (l := bitsN V Wn) (kd := .i64) (length_bitsN V Wn).symm (fun i _ => rfl) hg1)
        have hs1 := hb1.size
        have hs2 : wr.heap.size ≤ w1.heap.size := hs1
        have HB1 := Lib.hid (HBw.out.drew.trans (hb1.mono hsz))
        clear hg1 hb1 d0 d1 hs1
        go_wp2_with (at_builtin; refine wpList_append_own _ rfl (.tmp 48) (.tmp 49) 79 rfl w.heap.size 3 i0 (.int .i64 0) 1 8 Try.underlying79 hi hz0 hz1 hz2 rfl (by decide) _ _ _ rfl HO1.out ⟨wr.heap.size, 0, none⟩ Wn Wn (nums .i64 (bitsN V Wn)) rfl (by simp [nums]) HN1.out (one_nums _ _) (by unfold maxLen; omega) (by omega) (by omega) ?_; intro v' w2 hown' hgrow _)
        obtain ⟨R', rc', rfl⟩ := own_slice hown'
        have HB2 := Lib.hid (below_own HB1.out HO1.out (by omega) hgrow)
        have HO2 := Lib.hid hown'
        clear hown' hgrow HO1 HN1 HB1 c0 c1
        go_wp2
        go_roundw
        case rel =>
          have e1 : allBits (ps.take (k + 1)) = allBits (ps.take k) ++ bitsN V Wn := by rw [take_snocP ps k hlt, allBits_snoc, HP.out]; simp
          have e2 : (allBits (ps.take (k + 1))).length = (allBits (ps.take k)).length + Wn := by rw [e1]; simp
          refine ⟨k + 1, R', rc', by omega, by go_num, by rw [e2], all_take_snoc ps k hlt HL.out (by rw [HP.out]; exact HO.out), ?_, HB2.out⟩
          rw [e2, e1, ← nums_append]
          exact HO2.out
        case measure => simp [intOf]; omega
      · have HO := Lib.hid (show okP ((Wn : Int), V) = false from decide_eq_false (by simp only [Int.toNat_natCast]; omega))
        have hd : decide (V < 2 ^ Wn) = false := decide_eq_false h3
        have HD := Lib.hid hd
        clear h3 hd
        have hlo : (ad.add (k * 2)).block < wr.heap.size := by rw [block_add]; omega
        go_wp2_with fail
        go_region_held3 (fun w' => w'.cell? (ad.add (k * 2)) = some (.int .i64 (Wn : Int)) ∧ w'.cell? ⟨(ad.add (k * 2)).block, (ad.add (k * 2)).off + 1, none⟩ = some (.int .u64 (V : Int))) (first | exact ⟨c0, c1⟩ | exact ⟨d0, d1⟩)
          (first | (go_at_call 44; refine (bits_b false V Wn _ HD.out hv2 (by omega)).mono ?_; rintro e w1 ⟨rfl, hg1, hb1⟩; have d0 := (hb1.cell (p := ad.add (k * 2)) hlo).trans c0; have d1 := (hb1.cell (p := ⟨(ad.add (k * 2)).block, (ad.add (k * 2)).off + 1, none⟩) hlo).trans c1))
        have HB1 := Lib.hid (HBw.out.drew.trans (hb1.mono hsz))
        clear hg1 hb1 d0 d1
        go_wp2
        go_ret2
        exact ⟨ret_tup (by rw [packR_bad ps k hlt (by rw [HP.out]; exact HO.out)]; rfl), HB1.out⟩
    · obtain rfl : k = ps.length := by omega
      rw [List.take_length] at hle HL hown
      simp only [List.take_length]
      have hsz := hb.size
      have HBw := Lib.hid hb; clear hb
      have HW := Lib.hid hown; clear hown
      have hbin := bin_allBits ps
      have HBn := Lib.hid hbin; clear hbin
      obtain ⟨l, hl⟩ : ∃ l, l = allBits ps := ⟨_, rfl⟩
      rw [← hl] at hle HW HBn ⊢
      have HLL := Lib.hid hl; clear hl
      obtain ⟨T, hT⟩ : ∃ T, T = l.length := ⟨_, rfl⟩
      rw [← hT] at hle HW ⊢
      have HT := Lib.hid hT; clear hT
      by_cases h8 : T % 8 = 0
      · have ht : ((T : Int) % 8 != 0) = false := by simp; omega
        have HR := Lib.hid (show packR ps = (bytesOf l, 0) by unfold packR; rw [if_pos HL.out, ← HLL.out, ← HT.out, if_pos h8])
        obtain ⟨wo, rfl⟩ : ∃ wo : World, wo = wr := ⟨_, rfl⟩
        obtain ⟨m, hm⟩ : ∃ m, T = 8 * m := ⟨T / 8, by omega⟩
        have hm1 : T ≤ 8 * m := by omega
        have hm2 : 8 * m ≤ T := by omega
        have HM := Lib.hid hm; clear hm
        obtain ⟨j0, hj, hy0, hy1, hy2⟩ := info_parts info_u8
        clear h8
        go_wp2
        go_loopw [8, 9, 10, 11] (fun v i _ _ wr => ∃ (q : Nat) (R2 : Option Addr) (c2 : Nat), q ≤ m ∧ i = .int .i64 (8 * (q : Int)) ∧ v = .slice R2 q c2 ∧ wr.ownsRow w.heap.size 5 1 (.slice R2 q c2) q (byteVals ((bytesOf l).take q)) ∧
            wr.ownsRow w.heap.size 3 1 (.slice R T rc) T (nums .i64 l) ∧ Below w.heap.size w wr) (fun _ i _ _ _ => T - (intOf i).toNat)
        case atStart => exact ⟨0, none, 0, Nat.zero_le _, rfl, rfl, World.ownsRow_nil _ _ _ _, HW.out, HBw.out⟩
        case round =>
          obtain ⟨q, R2, c2, hq, rfl, rfl, hown2, hown, hb⟩ := hrel
          by_cases hlt : q < m
          · have hsz2 := hb.size
            obtain ⟨g, hR, _, _, hcell, _⟩ := own_cell hown (by omega)
            subst hR
            have HB2 := Lib.hid hb; clear hb
            have HO2 := Lib.hid hown2; clear hown2
            have HO := Lib.hid hown; clear hown
            have HC := Lib.hid hcell; clear hcell
            go_wp2_with fail
            go_loop [10, 11] (fun v i => ∃ j : Nat, j ≤ 8 ∧ i = .int .i64 j ∧ v = .int .i64 (val ((l.drop (8 * q)).take j) : Nat)) (fun _ i => 8 - (intOf i).toNat)
            case atStart => exact ⟨0, by omega, rfl, rfl⟩
            case round =>
              obtain ⟨j, hj8, rfl, rfl⟩ := hrel
              have hvl := val_lt ((HBn.out.drop (8 * q)).take j)
              have hvl2 : val ((l.drop (8 * q)).take j) < 256 := by
                refine Nat.lt_of_lt_of_le hvl ?_
                have := Nat.pow_le_pow_right (n := 2) (by omega) (show ((l.drop (8 * q)).take j).length ≤ 8 by simp; omega)
                omega
              clear hvl
              by_cases hj9 : j < 8
              · have c1 := HC.out (8 * q + j) (by omega)
                rw [get_nums _ _ _ (by rw [← HT.out]; omega)] at c1
                have hnx : val ((l.drop (8 * q)).take (j + 1)) = 2 * val ((l.drop (8 * q)).take j) + l.getD (8 * q + j) 0 := by
                  rw [take_succ_nth _ _ (by rw [List.length_drop, ← HT.out]; omega), val_snoc, nth_drop]; rfl
                have hb2 : l.getD (8 * q + j) 0 < 2 := nth_lt HBn.out (8 * q + j)
                have HN := Lib.hid hnx; clear hnx
                generalize val ((l.drop (8 * q)).take j) = x at *
                generalize l.getD (8 * q + j) 0 = y at *
                go_wp2
                go_round
                case rel => exact ⟨j + 1, by omega, by go_num, by rw [HN.out]; go_num⟩
                case measure => simp [intOf]; omega
              · obtain rfl : j = 8 := by omega
                have hby := bytesOf_next l q (by rw [← HT.out]; omega) HBn.out
                have HBY := Lib.hid hby; clear hby
                generalize val ((l.drop (8 * q)).take 8) = x at *
                go_wp2_with (at_builtin; refine wpList_append_own _ rfl (.tmp 74) (.tmp 77) 60 rfl w.heap.size 5 j0 (.int .u8 0) 1 1 Try.underlying60 hj hy0 hy1 hy2 rfl (by decide) _ _ _ rfl (HO2.out.alloc _) ⟨wr.heap.size, 0, none⟩ 1 1 [.int .u8 (x : Int)] rfl rfl (cell_new _ _ _) (by intro u hu; simp at hu; subst hu; rfl) (by unfold maxLen; omega) (by omega) (by simp; omega) ?_; intro v' w2 hown' hgrow _)
                obtain ⟨R', c', rfl⟩ := own_slice hown'
                have HB3 := Lib.hid (below_own (HB2.out.alloc hsz2 _) (HO2.out.alloc _) (by simp; omega) hgrow)
                have HOA := Lib.hid ((HO.out.alloc _).kept hgrow (own_ne HO.out HO2.out (by decide)))
                have HO3 := Lib.hid hown'
                clear hown' hgrow
                go_roundw
                case rel =>
                  refine ⟨q + 1, R', c', by omega, by go_num, by go_num, ?_, HOA.out, HB3.out⟩
                  rw [HBY.out]
                  exact HO3.out
                case measure => simp [intOf]; omega
          · obtain rfl : q = m := by omega
            have hcv := own_back (P := Try.prog) (src := 60) (dst := 9) hown2 Try.underlying60 Try.underlying5 Try.underlying9
            rw [List.take_of_length_le (by rw [length_bytesOf, ← HT.out]; omega)] at hcv
            have HB2 := Lib.hid hb; clear hb
            clear hown2 hown
            go_wp2
            go_ret2
            exact ⟨ret_tup (by rw [HR.out]; rfl), HB2.out⟩
      · have ht : ((T : Int) % 8 != 0) = true := by simp; omega
        have HR := Lib.hid (show packR ps = ([], 3) by unfold packR; rw [if_pos HL.out, ← HLL.out, ← HT.out, if_neg h8])
        clear h8
        go_wp2
        go_ret2
        exact ⟨ret_tup (by rw [HR.out]; rfl), HBw.out⟩
end Go.Proofs.Ytlbnigdindpnfaa.Rf
namespace Go.Proofs.Ytlbnigdindpnfaa.Rf
open Go.RowKit Go.Proofs.Ytlbnigdindpnfaa.Bt Go.Proofs.Ytlbnigdindpnfaa.Mm Go.Proofs.Ytlbnigdindpnfaa.Fl

theorem bits8 (c : Nat) (w : World) (hc : c < 256) :
    Calls Try.prog 44 #[.int .u64 (c : Int), .int .i64 8] w fun e w' => e = .returned (.tuple #[.slice (some ⟨w.heap.size, 0, none⟩) 8 8, .bool true]) ∧
      Blk w' w.heap.size 3 (numCells .i64 8 (nth (bitsN c 8))) ∧ Below w.heap.size w w' :=
  bits_b true c 8 w (decide_eq_true (by omega)) (by omega) (by omega)
theorem bitsB_take_succ (s : ByteArray) (k : Nat) (h : k < s.size) : bitsB (s.data.toList.take (k + 1)) = bitsB (s.data.toList.take k) ++ bitsN s[k].toNat 8 := by
  rw [take_snoc s k h, bitsB_append]
  simp [bitsB]
theorem getB_take (s : ByteArray) (m a n : Nat) (h : a + n ≤ 8 * m) (hm : m ≤ s.size) : val (((bitsB (s.data.toList.take m)).drop a).take n) = getB s a n := by
  unfold getB
  congr 1
  apply ext_nth
  · simp only [List.length_take, List.length_drop, length_bitsB, size_list]
    omega
  · intro i hi
    have hi' : i < n := by simp at hi; omega
    rw [nth_take _ _ _ hi', nth_take _ _ _ hi', nth_drop, nth_drop]
    have e : bitsB s.data.toList = bitsB (s.data.toList.take m) ++ bitsB (s.data.toList.drop m) := by rw [← bitsB_append, List.take_append_drop]
    rw [e, nth_append_left _ _ _ (by rw [length_bitsB, List.length_take, size_list]; omega)]

set_option maxRecDepth 100000 in
set_option maxHeartbeats 2000000 in
theorem rsplit_any (s : ByteArray) (zs : List Int) (A : Option Addr) (c : Nat) (w : World) (hs : s.size ≤ maxLen) (hn : zs.length ≤ 100000) (hA : Rd w w.heap.size A (ints zs)) :
    Calls Try.prog 41 #[.string s, .slice A zs.length c] w (SplitPost s zs w) := by
  unfold maxLen at hs
  have HA := Lib.hid hA; clear hA
  go_enter Try.func41, Try.ntmps41
  go_wp2
  go_loop [7, 8] (fun t i => ∃ k : Nat, k ≤ zs.length ∧ i = .int .i64 k ∧ t = .int .i64 (tot (zs.take k) : Nat) ∧ (zs.take k).all okW = true) (fun _ i => zs.length - (intOf i).toNat)
  case atStart => exact ⟨0, Nat.zero_le _, rfl, rfl, rfl⟩
  case round =>
    obtain ⟨k, hk, rfl, rfl, hall⟩ := hrel
    have hle := tot_le zs k hall
    have HL := Lib.hid hall; clear hall
    by_cases hlt : k < zs.length
    · obtain ⟨ad, rfl, hbl, hcell⟩ := HA.out (by rw [length_ints]; omega)
      have c0 := hcell _ _ (get_ints zs k hlt)
      clear hcell
      generalize hp : zs[k] = W at c0
      have HP := Lib.hid hp; clear hp
      by_cases h1 : W < 1
      · have HO := Lib.hid (show okW W = false from decide_eq_false (by omega))
        go_wp2
        go_ret3
        refine ⟨none, 0, ?_, ?_, Below.refl _ _⟩
        · rw [splitR_bad s zs k hlt (by rw [HP.out]; exact HO.out)]; rfl
        · rw [splitR_bad s zs k hlt (by rw [HP.out]; exact HO.out)]; exact Rd.none _ _ _
      by_cases h2 : 64 < W
      · have HO := Lib.hid (show okW W = false from decide_eq_false (by omega))
        go_wp2
        go_ret3
        refine ⟨none, 0, ?_, ?_, Below.refl _ _⟩
        · rw [splitR_bad s zs k hlt (by rw [HP.out]; exact HO.out)]; rfl
        · rw [splitR_bad s zs k hlt (by rw [HP.out]; exact HO.out)]; exact Rd.none _ _ _
      have HO := Lib.hid (show okW W = true from decide_eq_true ⟨by omega, by omega⟩)
      obtain ⟨Wn, rfl⟩ := Int.eq_ofNat_of_zero_le (show 0 ≤ W by omega)
      go_wp2
      go_round
      case rel =>
        refine ⟨k + 1, by omega, by go_num, ?_, all_snocW zs k hlt HL.out (by rw [HP.out]; exact HO.out)⟩
        rw [tot_snoc zs k hlt, HP.out]
        go_num
      case measure => simp [intOf]; omega
    · obtain rfl : k = zs.length := by omega
      rw [List.take_length] at hle HL
      simp only [List.take_length]
      obtain ⟨T, hT⟩ : ∃ T, T = tot zs := ⟨_, rfl⟩
      rw [← hT] at hle ⊢
      have HT := Lib.hid hT; clear hT
      by_cases h8 : T % 8 = 0
      · have ht : ((T : Int) % 8 != 0) = false := by simp; omega
        by_cases hsh : T / 8 ≤ s.size
        · have hf : decide (s.size < T / 8) = false := by simp; omega
          have HR := Lib.hid (show splitR s zs = (valsOf s zs, s.extract (T / 8) s.size, 0) by unfold splitR; rw [if_pos HL.out, ← HT.out, if_pos h8, if_pos hsh])
          have hT8 : T ≤ 8 * s.size := by omega
          have hT9 : T ≤ 8 * (T / 8) := by omega
          clear h8
          obtain ⟨i0, hi, hz0, hz1, hz2⟩ := info_parts info_u64
          obtain ⟨j0, hj, hy0, hy1, hy2⟩ := info_parts info_int
          go_wp2
          go_loopw [9, 10] (fun v i wr => ∃ (k : Nat) (R : Option Addr) (rc : Nat), k ≤ T / 8 ∧ i = .int .i64 k ∧ v = .slice R (8 * k) rc ∧
              wr.ownsRow w.heap.size 3 1 (.slice R (8 * k) rc) (8 * k) (nums .i64 (bitsB (s.data.toList.take k))) ∧ Below w.heap.size w wr) (fun _ i _ => T / 8 - (intOf i).toNat)
          case atStart => exact ⟨0, none, 0, Nat.zero_le _, rfl, rfl, World.ownsRow_nil _ _ _ _, Below.refl _ _⟩
          case round =>
            obtain ⟨k, R, rc, hk, rfl, rfl, hown, hb⟩ := hrel
            by_cases hlt : k < T / 8
            · have hks : k < s.size := by omega
              have hkz : (k : Int) < (T : Int) / 8 := by omega
              have hcb : s[k].toNat < 256 := UInt8.toNat_lt _
              have hsz := hb.size
              have HB := Lib.hid hb; clear hb
              have HW := Lib.hid hown; clear hown
              have HN := Lib.hid (bitsB_take_succ s k hks)
              go_wp2_with fail
              refine (bits8 s[k].toNat wr hcb).mono ?_
              rintro e w1 ⟨rfl, hg1, hb1⟩
              have HO1 := Lib.hid (own_below HW.out hb1)
              have HN1 := Lib.hid (blk_nums (l := bitsN s[k].toNat 8) (kd := .i64) (length_bitsN _ 8).symm (fun i _ => rfl) hg1)
              have hs1 := hb1.size
              have HB1 := Lib.hid (HB.out.trans (hb1.mono hsz))
              clear hg1 hb1
              go_wp2_with (at_builtin; refine wpList_append_own _ rfl (.tmp 64) (.tmp 65) 79 rfl w.heap.size 3 j0 (.int .i64 0) 1 8 Try.underlying79 hj hy0 hy1 hy2 rfl (by decide) _ _ _ rfl HO1.out ⟨wr.heap.size, 0, none⟩ 8 8 (nums .i64 (bitsN s[k].toNat 8)) rfl (by simp [nums]) HN1.out (one_nums _ _) (by unfold maxLen; omega) (by omega) (by omega) ?_; intro v' w2 hown' hgrow _)
              obtain ⟨R', rc', rfl⟩ := own_slice hown'
              have HB2 := Lib.hid (below_own HB1.out HO1.out (by omega) hgrow)
              have HO2 := Lib.hid hown'
              clear hown' hgrow HO1 HN1 HB1
              go_roundw
              case rel =>
                refine ⟨k + 1, R', rc', by omega, by go_num, by rw [Nat.mul_add], ?_, HB2.out⟩
                rw [HN.out, ← nums_append, Nat.mul_add]
                exact HO2.out
              case measure => simp [intOf]; omega
            · obtain rfl : k = T / 8 := by omega
              have hlk : (bitsB (s.data.toList.take (T / 8))).length = 8 * (T / 8) := by rw [length_bitsB, List.length_take, size_list, Nat.min_eq_left hsh]
              have HBn := Lib.hid (bin_bitsB (s.data.toList.take (T / 8)))
              have HGB := Lib.hid (fun a n (h : a + n ≤ 8 * (T / 8)) => getB_take s (T / 8) a n h hsh)
              obtain ⟨l, hl⟩ : ∃ l, l = bitsB (s.data.toList.take (T / 8)) := ⟨_, rfl⟩
              rw [← hl] at hown hlk HBn HGB
              clear hl
              have HLK := Lib.hid hlk; clear hlk
              obtain ⟨M, hM⟩ : ∃ M, M = 8 * (T / 8) := ⟨_, rfl⟩
              rw [← hM] at hown HLK HGB ⊢
              have hM1 : M ≤ T := by omega
              have hM2 : T ≤ M := by omega
              clear hM
              obtain ⟨wo, rfl⟩ : ∃ wo : World, wo = wr := ⟨_, rfl⟩
              have hsz := hb.size
              have HB := Lib.hid hb; clear hb
              have HW := Lib.hid hown; clear hown
              have hkz : ¬ ((T / 8 : Nat) : Int) < (T : Int) / 8 := by omega
              go_wp2
              go_loopw [13, 14, 15, 16, 17] (fun v t i _ _ wr => ∃ (k : Nat) (R2 : Option Addr) (c2 : Nat), k ≤ zs.length ∧ i = .int .i64 k ∧ t = .int .i64 (tot (zs.take k) : Nat) ∧ v = .slice R2 k c2 ∧ wr.ownsRow w.heap.size 23 1 (.slice R2 k c2) k (nums .u64 ((valsOf s zs).take k)) ∧
                  wr.ownsRow w.heap.size 3 1 (.slice R M rc) M (nums .i64 l) ∧ Below w.heap.size w wr) (fun _ _ i _ _ _ => zs.length - (intOf i).toNat)
              case atStart => exact ⟨0, none, 0, Nat.zero_le _, rfl, rfl, rfl, World.ownsRow_nil _ _ _ _, HW.out, HB.out⟩
              case round =>
                obtain ⟨k, R2, c2, hk2, rfl, rfl, rfl, hown2, hown, hb⟩ := hrel
                by_cases hlt2 : k < zs.length
                · have hsz2 := hb.size
                  obtain ⟨ad, rfl, hbl, hcell⟩ := (HA.out.below hb) (by rw [length_ints]; omega)
                  have c0 := hcell _ _ (get_ints zs k hlt2)
                  clear hcell
                  have hok := of_decide_eq_true (List.all_eq_true.1 HL.out _ (List.getElem_mem hlt2))
                  have hto := tot_mono zs k hlt2
                  rw [← HT.out] at hto
                  have htn := tot_snoc zs k hlt2
                  have hvn : nums .u64 ((valsOf s zs).take (k + 1)) = nums .u64 ((valsOf s zs).take k) ++ [.int .u64 ((getB s (tot (zs.take k)) zs[k].toNat : Nat) : Int)] := by
                    rw [List.take_succ_eq_append_getElem (by simp [valsOf]; omega), ← nums_append]
                    simp [valsOf, nums, hlt2]
                  generalize hp : zs[k] = W at c0 hok hto htn hvn
                  clear hp
                  obtain ⟨Wn, rfl⟩ := Int.eq_ofNat_of_zero_le (show 0 ≤ W by omega)
                  simp only [Int.toNat_natCast] at hto htn hvn
                  obtain ⟨ha1, ha2⟩ := hok
                  obtain ⟨g, hR, _, _, hcl, _⟩ := own_cell hown (by omega)
                  subst hR
                  have HTN := Lib.hid htn; clear htn
                  have HVN := Lib.hid hvn; clear hvn
                  have HB2 := Lib.hid hb; clear hb
                  have HO2 := Lib.hid hown2; clear hown2
                  have HO := Lib.hid hown; clear hown
                  have HC := Lib.hid hcl; clear hcl
                  go_wp2_with fail
                  go_loop [16, 17] (fun v i => ∃ j : Nat, j ≤ Wn ∧ i = .int .i64 j ∧ v = .int .u64 (getB s (tot (zs.take k)) j : Nat)) (fun _ i => Wn - (intOf i).toNat)
                  case atStart => exact ⟨0, by omega, rfl, rfl⟩
                  case round =>
                    obtain ⟨j, hj8, rfl, rfl⟩ := hrel
                    generalize htk : tot (zs.take k) = a at *
                    clear htk
                    by_cases hj9 : j < Wn
                    · have hgl := getB_lt s a j
                      have hgp := pow_le (j + 1) (by omega)
                      rw [Nat.pow_succ] at hgp
                      have c1 := HC.out (a + j) (by omega)
                      rw [get_nums _ _ _ (by rw [HLK.out]; omega)] at c1
                      have hnx : getB s a (j + 1) = 2 * getB s a j + l.getD (a + j) 0 := by
                        rw [← HGB.out a (j + 1) (by omega), ← HGB.out a j (by omega), take_succ_nth _ _ (by rw [List.length_drop, HLK.out]; omega), val_snoc, nth_drop]; rfl
                      have hb2 : l.getD (a + j) 0 < 2 := nth_lt HBn.out (a + j)
                      have HN := Lib.hid hnx; clear hnx
                      generalize getB s a j = x at *
                      generalize l.getD (a + j) 0 = y at *
                      have hx : x < 9223372036854775808 := by omega
                      clear hgl hgp
                      go_wp2
                      go_round
                      case rel => exact ⟨j + 1, by omega, by go_num, by rw [HN.out]; go_num⟩
                      case measure => simp [intOf]; omega
                    · obtain rfl : j = Wn := by omega
                      generalize getB s a j = x at *
                      go_wp2_with (at_builtin; refine wpList_append_own _ rfl (.tmp 97) (.tmp 99) 66 rfl w.heap.size 23 i0 (.int .u64 0) 1 8 Try.underlying66 hi hz0 hz1 hz2 rfl (by decide) _ _ _ rfl (HO2.out.alloc _) ⟨wr.heap.size, 0, none⟩ 1 1 [.int .u64 (x : Int)] rfl rfl (cell_new _ _ _) (by intro u hu; simp at hu; subst hu; rfl) (by unfold maxLen; omega) (by omega) (by simp; omega) ?_; intro v' w2 hown' hgrow _)
                      obtain ⟨R', c', rfl⟩ := own_slice hown'
                      have HB3 := Lib.hid (below_own (HB2.out.alloc hsz2 _) (HO2.out.alloc _) (by simp; omega) hgrow)
                      have HOA := Lib.hid ((HO.out.alloc _).kept hgrow (own_ne HO.out HO2.out (by decide)))
                      have HO3 := Lib.hid hown'
                      clear hown' hgrow
                      go_roundw
                      case rel =>
                        refine ⟨k + 1, R', c', by omega, by go_num, by rw [HTN.out]; go_num, by go_num, ?_, HOA.out, HB3.out⟩
                        rw [HVN.out]
                        exact HO3.out
                      case measure => simp [intOf]; omega
                · obtain rfl : k = zs.length := by omega
                  have hv : (valsOf s zs).length = zs.length := by simp [valsOf]
                  rw [List.take_of_length_le (by omega)] at hown2
                  have hrd := Rd.of_own hown2
                  have HRD := Lib.hid hrd; clear hrd
                  have HV := Lib.hid hv; clear hv
                  have HB2 := Lib.hid hb; clear hb
                  clear hown2 hown
                  have hq : (T : Int) / 8 ≤ (s.size : Int) := by omega
                  go_wp2
                  go_quiet (fail)
                  go_wp2
                  go_ret3
                  refine ⟨R2, c2, by rw [HR.out, HV.out]; rfl, ?_, below_drewN HB2.out nq⟩
                  rw [HR.out]
                  exact HRD.out
        · have hf : decide (s.size < T / 8) = true := by simp; omega
          have hf2 : decide ((s.size : Int) < (T : Int) / 8) = true := by simp; omega
          have HR := Lib.hid (show splitR s zs = ([], ⟨#[]⟩, 1) by unfold splitR; rw [if_pos HL.out, ← HT.out, if_pos h8, if_neg hsh])
          clear h8
          go_wp2
          go_ret3
          exact ⟨none, 0, by rw [HR.out]; rfl, by rw [HR.out]; exact Rd.none _ _ _, Below.refl _ _⟩
      · have ht : ((T : Int) % 8 != 0) = true := by simp; omega
        have HR := Lib.hid (show splitR s zs = ([], ⟨#[]⟩, 3) by unfold splitR; rw [if_pos HL.out, ← HT.out, if_neg h8])
        clear h8
        go_wp2
        go_ret3
        exact ⟨none, 0, by rw [HR.out]; rfl, by rw [HR.out]; exact Rd.none _ _ _, Below.refl _ _⟩
end Go.Proofs.Ytlbnigdindpnfaa.Rf
