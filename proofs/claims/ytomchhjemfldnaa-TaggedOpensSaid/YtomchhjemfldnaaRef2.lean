/-
  Contract of the document's Pack.
-/
import Derived.Test.YtomchhjemfldnaaRef1
import Derived.Deep.RegionWith
import Derived.StillTailTactics
import Derived.Deep.RegionHeld3
namespace Go.Proofs.Ytomchhjemfldnaa.Rf
open Go.RowKit Go.Proofs.Ytomchhjemfldnaa.Bt Go.Proofs.Ytomchhjemfldnaa.Mm Go.Proofs.Ytomchhjemfldnaa.Fl

theorem bits_b (b : Bool) (v n : Nat) (w : World) (hb : decide (v < 2 ^ n) = b) (hv : v < 18446744073709551616) (hn : n ≤ 64) :
    Calls Try.prog 33 #[.int .u64 v, .int .i64 n] w fun e w' => e = .returned (.tuple #[.slice (some ⟨w.heap.size, 0, none⟩) n n, .bool b]) ∧
      Blk w' w.heap.size 3 (numCells .i64 n (nth (bitsN v n))) ∧ Below w.heap.size w w' := by
  subst hb; exact bits_any v n w hv hn

theorem bytesOf_next (l : List Nat) (q : Nat) (h : 8 * q + 8 ≤ l.length) (hl : Bin l) : byteVals ((bytesOf l).take (q + 1)) = byteVals ((bytesOf l).take q) ++ [.int .u8 ((val ((l.drop (8 * q)).take 8) : Nat) : Int)] := by
  have hq : q < (bytesOf l).length := by rw [length_bytesOf]; omega
  have e8 : ((l.drop (8 * q)).take 8).length = 8 := by simp; omega
  have hb : val ((l.drop (8 * q)).take 8) = byteF (nth l) q := by
    rw [byte_val _ e8]
    unfold byteF
    simp only [nth_take _ _ _ (show 8 * 0 + 0 < 8 by omega), nth_take _ _ _ (show 8 * 0 + 1 < 8 by omega), nth_take _ _ _ (show 8 * 0 + 2 < 8 by omega), nth_take _ _ _ (show 8 * 0 + 3 < 8 by omega), nth_take _ _ _ (show 8 * 0 + 4 < 8 by omega), nth_take _ _ _ (show 8 * 0 + 5 < 8 by omega), nth_take _ _ _ (show 8 * 0 + 6 < 8 by omega), nth_take _ _ _ (show 8 * 0 + 7 < 8 by omega), nth_drop]
  rw [List.take_succ_eq_append_getElem hq]
  have e : (bytesOf l)[q] = UInt8.ofNat (byteF (nth l) q) := by simp [bytesOf]
  rw [e, hb]
  unfold byteVals
  rw [List.map_append, List.map_singleton, ofNat_toNat _ (byteF_lt (fun i => nth_lt hl i) q)]

set_option maxHeartbeats 1000000 in
theorem rpack_any (ps : List (Int × Nat)) (A : Option Addr) (c : Nat) (w : World) (hn : ps.length ≤ 100000) (hA : Rd w w.heap.size A (partCells ps)) (hv : ∀ p ∈ ps, p.2 < 18446744073709551616) :
    Calls Try.prog 29 #[.slice A ps.length c] w fun e w' => e = .returned (.tuple #[.string ⟨(packR ps).1.toArray⟩, .int .i64 ((packR ps).2 : Nat)]) ∧ Below w.heap.size w w' := by
  have HA := Lib.hid hA; clear hA
  have HV := Lib.hid hv; clear hv
  obtain ⟨i0, hi, hz0, hz1, hz2⟩ := info_parts info_int
  go_enter Try.func29, Try.ntmps29
  go_wp2
  go_loopw [4, 5] (fun v i wr => ∃ (k : Nat) (R : Option Addr) (rc : Nat), k ≤ ps.length ∧ i = .int .i64 k ∧ v = .slice R (allBits (ps.take k)).length rc ∧ (ps.take k).all okP = true ∧
      wr.ownsRow w.heap.size 3 1 (.slice R (allBits (ps.take k)).length rc) (allBits (ps.take k)).length (nums .i64 (allBits (ps.take k))) ∧ Below w.heap.size w wr) (fun _ i _ => ps.length - (intOf i).toNat)
  case atStart => exact ⟨0, none, 0, Nat.zero_le _, rfl, rfl, rfl, World.ownsRow_nil _ _ _ _, Below.refl _ _⟩
  case round =>
    obtain ⟨k, R, rc, hk, rfl, rfl, hall, hown, hb⟩ := hrel
    have hle := len_take_le ps k hall
    have HL := Lib.hid hall; clear hall
    by_cases hlt : k < ps.length
    · have hc := get_partCells ps k hlt
      obtain ⟨ad, rfl, hbl, hcell⟩ := (HA.out.below hb) (by rw [length_partCells]; omega)
      have c0 := hcell _ _ hc.1
      have c1 := hcell _ _ hc.2
      rw [add_succ] at c1
      clear hcell hc
      have hsz := hb.size
      have HBw := Lib.hid hb; clear hb
      have HW := Lib.hid hown; clear hown
      have hv2 := HV.out _ (List.getElem_mem hlt)
      generalize hp : ps[k] = p at c0 c1 hv2
      obtain ⟨W, V⟩ := p
      have HP := Lib.hid hp; clear hp
      simp only at c0 c1 hv2
      by_cases h1 : W < 1
      · have HO := Lib.hid (show okP (W, V) = false from decide_eq_false (by simp only; omega))
        go_wp2
        go_ret2
        exact ⟨ret_tup (by rw [packR_bad ps k hlt (by rw [HP.out]; exact HO.out)]; rfl), HBw.out⟩
      by_cases h2 : 64 < W
      · have HO := Lib.hid (show okP (W, V) = false from decide_eq_false (by simp only; omega))
        go_wp2
        go_ret2
        exact ⟨ret_tup (by rw [packR_bad ps k hlt (by rw [HP.out]; exact HO.out)]; rfl), HBw.out⟩
      obtain ⟨Wn, rfl⟩ := Int.eq_ofNat_of_zero_le (show 0 ≤ W by omega)
      by_cases h3 : V < 2 ^ Wn
      · have HO := Lib.hid (show okP ((Wn : Int), V) = true from decide_eq_true ⟨by simp only; omega, by simp only; omega, by simpa using h3⟩)
        have hd : decide (V < 2 ^ Wn) = true := decide_eq_true h3
        have HD := Lib.hid hd
        clear h3 hd
        have hlo : (ad.add (k * 2)).block < wr.heap.size := by rw [block_add]; omega
        go_wp2_with fail
        go_region_held3 (fun w' => w'.cell? (ad.add (k * 2)) = some (.int .i64 (Wn : Int)) ∧ w'.cell? ⟨(ad.add (k * 2)).block, (ad.add (k * 2)).off + 1, none⟩ = some (.int .u64 (V : Int))) (first | exact ⟨c0, c1⟩ | exact ⟨d0, d1⟩)
          (first | (go_at_call 33; refine (bits_b true V Wn _ HD.out hv2 (by omega)).mono ?_; rintro e w1 ⟨rfl, hg1, hb1⟩; have d0 := (hb1.cell (p := ad.add (k * 2)) hlo).trans c0; have d1 := (hb1.cell (p := ⟨(ad.add (k * 2)).block, (ad.add (k * 2)).off + 1, none⟩) hlo).trans c1))
        have HO1 := Lib.hid (own_below (own_drew HW.out) hb1)
        have HN1 := Lib.hid (blk_nums (l := bitsN V Wn) (kd := .i64) (length_bitsN V Wn).symm (fun i _ => rfl) hg1)
        have hs1 := hb1.size
        have hs2 : wr.heap.size ≤ w1.heap.size := hs1
        have HB1 := Lib.hid (HBw.out.drew.trans (hb1.mono hsz))
        clear hg1 hb1 d0 d1 hs1
        go_wp2_with (at_builtin; refine wpList_append_own _ rfl (.tmp 48) (.tmp 49) 65 rfl w.heap.size 3 i0 (.int .i64 0) 1 8 Try.underlying65 hi hz0 hz1 hz2 rfl (by decide) _ _ _ rfl HO1.out ⟨wr.heap.size, 0, none⟩ Wn Wn (nums .i64 (bitsN V Wn)) rfl (by simp [nums]) HN1.out (one_nums _ _) (by unfold maxLen; omega) (by omega) (by omega) ?_; intro v' w2 hown' hgrow _)
        obtain ⟨R', rc', rfl⟩ := own_slice hown'
        have HB2 := Lib.hid (below_own HB1.out HO1.out (by omega) hgrow)
        have HO2 := Lib.hid hown'
        clear hown' hgrow HO1 HN1 HB1 c0 c1
        go_wp2
        go_roundw
        case rel =>
          have e1 : allBits (ps.take (k + 1)) = allBits (ps.take k) ++ bitsN V Wn := by rw [take_snocP ps k hlt, allBits_snoc, HP.out]; simp
          have e2 : (allBits (ps.take (k + 1))).length = (allBits (ps.take k)).length + Wn := by rw [e1]; simp
          refine ⟨k + 1, R', rc', by omega, by go_num, by rw [e2], all_take_snoc ps k hlt HL.out (by rw [HP.out]; exact HO.out), ?_, HB2.out⟩
          rw [e2, e1, ← nums_append]
          exact HO2.out
        case measure => simp [intOf]; omega
      · have HO := Lib.hid (show okP ((Wn : Int), V) = false from decide_eq_false (by simp only [Int.toNat_natCast]; omega))
        have hd : decide (V < 2 ^ Wn) = false := decide_eq_false h3
        have HD := Lib.hid hd
        clear h3 hd
        have hlo : (ad.add (k * 2)).block < wr.heap.size := by rw [block_add]; omega
        go_wp2_with fail
        go_region_held3 (fun w' => w'.cell? (ad.add (k * 2)) = some (.int .i64 (Wn : Int)) ∧ w'.cell? ⟨(ad.add (k * 2)).block, (ad.add (k * 2)).off + 1, none⟩ = some (.int .u64 (V : Int))) (first | exact ⟨c0, c1⟩ | exact ⟨d0, d1⟩)
          (first | (go_at_call 33; refine (bits_b false V Wn _ HD.out hv2 (by omega)).mono ?_; rintro e w1 ⟨rfl, hg1, hb1⟩; have d0 := (hb1.cell (p := ad.add (k * 2)) hlo).trans c0; have d1 := (hb1.cell (p := ⟨(ad.add (k * 2)).block, (ad.add (k * 2)).off + 1, none⟩) hlo).trans c1))
        have HB1 := Lib.hid (HBw.out.drew.trans (hb1.mono hsz))
        clear hg1 hb1 d0 d1
        go_wp2
        go_ret2
        exact ⟨ret_tup (by rw [packR_bad ps k hlt (by rw [HP.out]; exact HO.out)]; rfl), HB1.out⟩
    · obtain rfl : k = ps.length := by omega
      rw [List.take_length] at hle HL hown
      simp only [List.take_length]
      have hsz := hb.size
      have HBw := Lib.hid hb; clear hb
      have HW := Lib.hid hown; clear hown
      have hbin := bin_allBits ps
      have HBn := Lib.hid hbin; clear hbin
      obtain ⟨l, hl⟩ : ∃ l, l = allBits ps := ⟨_, rfl⟩
      rw [← hl] at hle HW HBn ⊢
      have HLL := Lib.hid hl; clear hl
      obtain ⟨T, hT⟩ : ∃ T, T = l.length := ⟨_, rfl⟩
      rw [← hT] at hle HW ⊢
      have HT := Lib.hid hT; clear hT
      by_cases h8 : T % 8 = 0
      · have ht : ((T : Int) % 8 != 0) = false := by simp; omega
        have HR := Lib.hid (show packR ps = (bytesOf l, 0) by unfold packR; rw [if_pos HL.out, ← HLL.out, ← HT.out, if_pos h8])
        obtain ⟨wo, rfl⟩ : ∃ wo : World, wo = wr := ⟨_, rfl⟩
        obtain ⟨m, hm⟩ : ∃ m, T = 8 * m := ⟨T / 8, by omega⟩
        have hm1 : T ≤ 8 * m := by omega
        have hm2 : 8 * m ≤ T := by omega
        have HM := Lib.hid hm; clear hm
        obtain ⟨j0, hj, hy0, hy1, hy2⟩ := info_parts info_u8
        clear h8
        go_wp2
        go_loopw [8, 9, 10, 11] (fun v i _ _ wr => ∃ (q : Nat) (R2 : Option Addr) (c2 : Nat), q ≤ m ∧ i = .int .i64 (8 * (q : Int)) ∧ v = .slice R2 q c2 ∧ wr.ownsRow w.heap.size 5 1 (.slice R2 q c2) q (byteVals ((bytesOf l).take q)) ∧
            wr.ownsRow w.heap.size 3 1 (.slice R T rc) T (nums .i64 l) ∧ Below w.heap.size w wr) (fun _ i _ _ _ => T - (intOf i).toNat)
        case atStart => exact ⟨0, none, 0, Nat.zero_le _, rfl, rfl, World.ownsRow_nil _ _ _ _, HW.out, HBw.out⟩
        case round =>
          obtain ⟨q, R2, c2, hq, rfl, rfl, hown2, hown, hb⟩ := hrel
          by_cases hlt : q < m
          · have hsz2 := hb.size
            obtain ⟨g, hR, _, _, hcell, _⟩ := own_cell hown (by omega)
            subst hR
            have HB2 := Lib.hid hb; clear hb
            have HO2 := Lib.hid hown2; clear hown2
            have HO := Lib.hid hown; clear hown
            have HC := Lib.hid hcell; clear hcell
            go_wp2_with fail
            go_loop [10, 11] (fun v i => ∃ j : Nat, j ≤ 8 ∧ i = .int .i64 j ∧ v = .int .i64 (val ((l.drop (8 * q)).take j) : Nat)) (fun _ i => 8 - (intOf i).toNat)
            case atStart => exact ⟨0, by omega, rfl, rfl⟩
            case round =>
              obtain ⟨j, hj8, rfl, rfl⟩ := hrel
              have hvl := val_lt ((HBn.out.drop (8 * q)).take j)
              have hvl2 : val ((l.drop (8 * q)).take j) < 256 := by
                refine Nat.lt_of_lt_of_le hvl ?_
                have := Nat.pow_le_pow_right (n := 2) (by omega) (show ((l.drop (8 * q)).take j).length ≤ 8 by simp; omega)
                omega
              clear hvl
              by_cases hj9 : j < 8
              · have c1 := HC.out (8 * q + j) (by omega)
                rw [get_nums _ _ _ (by rw [← HT.out]; omega)] at c1
                have hnx : val ((l.drop (8 * q)).take (j + 1)) = 2 * val ((l.drop (8 * q)).take j) + l.getD (8 * q + j) 0 := by
                  rw [take_succ_nth _ _ (by rw [List.length_drop, ← HT.out]; omega), val_snoc, nth_drop]; rfl
                have hb2 : l.getD (8 * q + j) 0 < 2 := nth_lt HBn.out (8 * q + j)
                have HN := Lib.hid hnx; clear hnx
                generalize val ((l.drop (8 * q)).take j) = x at *
                generalize l.getD (8 * q + j) 0 = y at *
                go_wp2
                go_round
                case rel => exact ⟨j + 1, by omega, by go_num, by rw [HN.out]; go_num⟩
                case measure => simp [intOf]; omega
              · obtain rfl : j = 8 := by omega
                have hby := bytesOf_next l q (by rw [← HT.out]; omega) HBn.out
                have HBY := Lib.hid hby; clear hby
                generalize val ((l.drop (8 * q)).take 8) = x at *
                go_wp2_with (at_builtin; refine wpList_append_own _ rfl (.tmp 74) (.tmp 77) 60 rfl w.heap.size 5 j0 (.int .u8 0) 1 1 Try.underlying60 hj hy0 hy1 hy2 rfl (by decide) _ _ _ rfl (HO2.out.alloc _) ⟨wr.heap.size, 0, none⟩ 1 1 [.int .u8 (x : Int)] rfl rfl (cell_new _ _ _) (by intro u hu; simp at hu; subst hu; rfl) (by unfold maxLen; omega) (by omega) (by simp; omega) ?_; intro v' w2 hown' hgrow _)
                obtain ⟨R', c', rfl⟩ := own_slice hown'
                have HB3 := Lib.hid (below_own (HB2.out.alloc hsz2 _) (HO2.out.alloc _) (by simp; omega) hgrow)
                have HOA := Lib.hid ((HO.out.alloc _).kept hgrow (own_ne HO.out HO2.out (by decide)))
                have HO3 := Lib.hid hown'
                clear hown' hgrow
                go_roundw
                case rel =>
                  refine ⟨q + 1, R', c', by omega, by go_num, by go_num, ?_, HOA.out, HB3.out⟩
                  rw [HBY.out]
                  exact HO3.out
                case measure => simp [intOf]; omega
          · obtain rfl : q = m := by omega
            have hcv := own_back (P := Try.prog) (src := 60) (dst := 9) hown2 Try.underlying60 Try.underlying5 Try.underlying9
            rw [List.take_of_length_le (by rw [length_bytesOf, ← HT.out]; omega)] at hcv
            have HB2 := Lib.hid hb; clear hb
            clear hown2 hown
            go_wp2
            go_ret2
            exact ⟨ret_tup (by rw [HR.out]; rfl), HB2.out⟩
      · have ht : ((T : Int) % 8 != 0) = true := by simp; omega
        have HR := Lib.hid (show packR ps = ([], 3) by unfold packR; rw [if_pos HL.out, ← HLL.out, ← HT.out, if_neg h8])
        clear h8
        go_wp2
        go_ret2
        exact ⟨ret_tup (by rw [HR.out]; rfl), HBw.out⟩
end Go.Proofs.Ytomchhjemfldnaa.Rf
