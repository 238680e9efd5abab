/-
  Contract of field's Pack.
-/
import Derived.Test.YtflofehnclaffaaField2
namespace Go.Proofs.Ytflofehnclaffaa.Fl
open Go.RowKit Go.Proofs.Ytflofehnclaffaa.Bt Go.Proofs.Ytflofehnclaffaa.Mm

def partCells (ps : List (Int × Nat)) : List Value := ps.flatMap fun p => [.int .i64 p.1, .int .u64 (p.2 : Nat)]
def okP (p : Int × Nat) : Bool := decide (1 ≤ p.1 ∧ p.1 ≤ 64 ∧ p.2 < 2 ^ p.1.toNat)
def allBits (ps : List (Int × Nat)) : List Nat := ps.flatMap fun p => bitsN p.2 p.1.toNat
theorem length_partCells (ps : List (Int × Nat)) : (partCells ps).length = 2 * ps.length := by
  induction ps with
  | nil => rfl
  | cons p ps ih => simp only [partCells, List.flatMap_cons, List.length_append, List.length_cons, List.length_nil] at ih ⊢; omega
theorem get_partCells : ∀ (ps : List (Int × Nat)) (k : Nat) (h : k < ps.length), (partCells ps)[k * 2]? = some (.int .i64 (ps[k]).1) ∧ (partCells ps)[k * 2 + 1]? = some (.int .u64 ((ps[k]).2 : Nat))
  | [], k, h => by simp at h
  | p :: ps, 0, h => by simp [partCells]
  | p :: ps, k + 1, h => by
    have := get_partCells ps k (by simpa using h)
    have e1 : (k + 1) * 2 = k * 2 + 1 + 1 := by omega
    rw [e1]
    simpa [partCells] using this
theorem allBits_snoc (ps : List (Int × Nat)) (p : Int × Nat) : allBits (ps ++ [p]) = allBits ps ++ bitsN p.2 p.1.toNat := by simp [allBits]
theorem take_snocP (ps : List (Int × Nat)) (k : Nat) (h : k < ps.length) : ps.take (k + 1) = ps.take k ++ [ps[k]] := List.take_succ_eq_append_getElem h
theorem len_take_le (ps : List (Int × Nat)) (k : Nat) (h : (ps.take k).all okP = true) : (allBits (ps.take k)).length ≤ 64 * k := by
  induction k with
  | zero => simp [allBits]
  | succ k ih =>
    rcases Nat.lt_or_ge k ps.length with hk | hk
    · rw [take_snocP ps k hk] at h ⊢
      rw [List.all_append, Bool.and_eq_true] at h
      have h2 : okP ps[k] = true := by simpa using h.2
      have := ih h.1
      rw [allBits_snoc, List.length_append, length_bitsN]
      have h3 := of_decide_eq_true h2
      omega
    · rw [List.take_of_length_le (by omega)] at h ⊢
      have := ih (by rw [List.take_of_length_le (by omega)]; exact h)
      rw [List.take_of_length_le (by omega)] at this
      omega
theorem bin_allBits (ps : List (Int × Nat)) : Bin (allBits ps) := by
  induction ps with
  | nil => exact Bin.nil
  | cons p ps ih => exact (bin_bitsN _ _).append ih


/-- what Pack answers -/
def packR (ps : List (Int × Nat)) : List UInt8 × Nat := if ps.all okP = true then (if (allBits ps).length % 8 = 0 then (bytesOf (allBits ps), 0) else ([], 3)) else ([], 4)
theorem packR_bad (ps : List (Int × Nat)) (k : Nat) (h : k < ps.length) (hb : okP ps[k] = false) : packR ps = ([], 4) := by
  unfold packR
  rw [if_neg]
  intro hall
  rw [List.all_eq_true] at hall
  rw [hall _ (List.getElem_mem h)] at hb
  cases hb
theorem all_take_snoc (ps : List (Int × Nat)) (k : Nat) (h : k < ps.length) (ha : (ps.take k).all okP = true) (hb : okP ps[k] = true) : (ps.take (k + 1)).all okP = true := by
  rw [take_snocP ps k h, List.all_append, ha]
  simp [hb]
theorem allBits_append (a b : List (Int × Nat)) : allBits (a ++ b) = allBits a ++ allBits b := by simp [allBits]
theorem allBits_cut (ps : List (Int × Nat)) (k : Nat) (h : k < ps.length) : allBits ps = allBits (ps.take k) ++ (bitsN ps[k].2 ps[k].1.toNat ++ allBits (ps.drop (k + 1))) := by
  have e : ps = ps.take k ++ ([ps[k]] ++ ps.drop (k + 1)) := by
    rw [← List.append_assoc, ← take_snocP ps k h, List.take_append_drop]
  conv => lhs; rw [e]
  rw [allBits_append, allBits_append]
  simp [allBits]
theorem allBits_at (ps : List (Int × Nat)) (k : Nat) (h : k < ps.length) (i : Nat) (hi : i < ps[k].1.toNat) :
    nth (allBits ps) ((allBits (ps.take k)).length + i) = ps[k].2 / 2 ^ (ps[k].1.toNat - 1 - i) % 2 := by
  rw [allBits_cut ps k h, nth_append_right, nth_append_left _ _ _ (by simpa using hi), nth_bitsN _ _ _ hi]
theorem len_take_mono (ps : List (Int × Nat)) (k : Nat) (h : k < ps.length) : (allBits (ps.take k)).length + ps[k].1.toNat ≤ (allBits ps).length := by
  rw [allBits_cut ps k h]
  simp only [List.length_append, length_bitsN]
  omega
theorem info_u8 : (Try.prog.info? 5).map (fun i => (i.zero, i.size, i.bytes)) = some (some (.int .u8 0), 1, 1) := by kernel_rfl
theorem made_bytes (m : Nat) (l : List Nat) : madeCells (Value.int .u8 0).cells (m * 1) = byteCells m (byteF (upTo l 0)) := by
  have e : byteF (upTo l 0) = fun _ => 0 := funext (byteF_zero l)
  rw [e]
  apply Array.ext
  · simp [madeCells, byteCells, Value.cells]
  · intro i h1 h2
    simp [madeCells, byteCells, Value.cells, Nat.mod_one]
theorem bytes_full (l : List Nat) (m : Nat) (h : m = l.length / 8) : ((List.range m).map fun k => UInt8.ofNat (byteF (upTo l l.length) k)) = bytesOf l := by
  subst h
  unfold bytesOf
  apply List.map_congr_left
  intro k _
  rw [byteF_full]
theorem ret_tup {a b : Array Value} (h : a = b) : Ending.returned (.tuple a) = .returned (.tuple b) := by rw [h]
theorem shr_zero (V W : Nat) : ((V : Int) / 2 ^ W != 0) = decide (¬ V < 2 ^ W) := by
  rw [div_cast, Bool.eq_iff_iff]
  simp only [bne_iff_ne, ne_eq, decide_eq_true_eq]
  have := Nat.two_pow_pos W
  rw [Nat.not_lt]
  constructor
  · intro h
    have h2 : V / 2 ^ W ≠ 0 := by omega
    rcases Nat.lt_or_ge V (2 ^ W) with h3 | h3
    · exact absurd (Nat.div_eq_of_lt h3) h2
    · exact h3
  · intro h
    have := Nat.div_pos h this
    omega

set_option maxHeartbeats 1000000 in
theorem pack_any (ps : List (Int × Nat)) (A : Option Addr) (c : Nat) (w : World) (hn : ps.length ≤ 100000) (hA : Rd w w.heap.size A (partCells ps)) (hv : ∀ p ∈ ps, p.2 < 18446744073709551616) :
    Calls Try.prog 14 #[.slice A ps.length c] w fun e w' => e = .returned (.tuple #[.string ⟨(packR ps).1.toArray⟩, .int .i64 ((packR ps).2 : Nat)]) ∧ Below w.heap.size w w' := by
  have HA := Lib.hid hA; clear hA
  have HV := Lib.hid hv; clear hv
  go_enter Try.func14, Try.ntmps14
  go_wp2
  go_loopw [4, 13] (fun t i wr => ∃ k : Nat, k ≤ ps.length ∧ i = .int .i64 k ∧ t = .int .i64 ((allBits (ps.take k)).length : Nat) ∧ (ps.take k).all okP = true ∧ Below w.heap.size w wr) (fun _ i _ => ps.length - (intOf i).toNat)
  case atStart => exact ⟨0, Nat.zero_le _, rfl, rfl, rfl, Below.refl _ _⟩
  case round =>
    obtain ⟨k, hk, rfl, rfl, hall, hb⟩ := hrel
    have hle := len_take_le ps k hall
    have HL := Lib.hid hall; clear hall
    by_cases hlt : k < ps.length
    · have hc := get_partCells ps k hlt
      obtain ⟨ad, rfl, hbl, hcell⟩ := (HA.out.below hb) (by rw [length_partCells]; omega)
      have c0 := hcell _ _ hc.1
      have c1 := hcell _ _ hc.2
      rw [add_succ] at c1
      clear hcell hc
      have hsz := hb.size
      have HBw := Lib.hid hb; clear hb
      have hv2 := HV.out _ (List.getElem_mem hlt)
      generalize hp : ps[k] = p at c0 c1 hv2
      obtain ⟨W, V⟩ := p
      have HP := Lib.hid hp; clear hp
      simp only at c0 c1 hv2
      by_cases h1 : 1 ≤ W ∧ W ≤ 64
      · obtain ⟨ha1, ha2⟩ := h1
        obtain ⟨Wn, rfl⟩ := Int.eq_ofNat_of_zero_le (show 0 ≤ W by omega)
        have hs := shr_zero V Wn
        by_cases h2 : V < 2 ^ Wn
        · have HO := Lib.hid (show okP ((Wn : Int), V) = true from decide_eq_true ⟨ha1, ha2, by simpa using h2⟩)
          have hs' : ((V : Int) / 2 ^ Wn != 0) = false := by rw [hs]; simpa using h2
          clear hs h2
          go_wp2_with (go_at_call 16; refine (may_yes _ _ (by omega) (by omega)).mono ?_; rintro e w' ⟨rfl, rfl⟩)
          go_roundw
          case rel =>
            refine ⟨k + 1, by omega, by go_num, ?_, ?_, ?_⟩
            · rw [take_snocP ps k hlt, allBits_snoc, HP.out]; simp
            · exact all_take_snoc ps k hlt HL.out (by rw [HP.out]; exact HO.out)
            · exact HBw.out.alloc hsz _
          case measure => simp [intOf]; omega
        · have HO := Lib.hid (show okP ((Wn : Int), V) = false from decide_eq_false (by simp only [Int.toNat_natCast]; omega))
          have hs' : ((V : Int) / 2 ^ Wn != 0) = true := by rw [hs]; simpa using h2
          clear hs h2
          go_wp2_with (go_at_call 16; refine (may_yes _ _ (by omega) (by omega)).mono ?_; rintro e w' ⟨rfl, rfl⟩)
          go_ret2
          exact ⟨ret_tup (by rw [packR_bad ps k hlt (by rw [HP.out]; exact HO.out)]; rfl), HBw.out.alloc hsz _⟩
      · have HO := Lib.hid (show okP (W, V) = false from decide_eq_false (by simp only; omega))
        have h1' : W < 1 ∨ 64 < W := by omega
        clear h1
        go_wp2_with (go_at_call 16; refine (may_no _ _ h1').mono ?_; rintro e w' ⟨rfl, rfl⟩)
        go_ret2
        exact ⟨ret_tup (by rw [packR_bad ps k hlt (by rw [HP.out]; exact HO.out)]; rfl), HBw.out.alloc hsz _⟩
    · obtain rfl : k = ps.length := by omega
      rw [List.take_length] at hle HL
      simp only [List.take_length]
      have hsz := hb.size
      have HBw := Lib.hid hb; clear hb
      obtain ⟨T, hT⟩ : ∃ T, T = (allBits ps).length := ⟨_, rfl⟩
      rw [← hT] at hle ⊢
      have HT := Lib.hid hT; clear hT
      by_cases h8 : T % 8 = 0
      · have ht : ((T : Int) % 8 != 0) = false := by simp; omega
        have HR := Lib.hid (show packR ps = (bytesOf (allBits ps), 0) by unfold packR; rw [if_pos HL.out, if_pos (by rw [← HT.out]; exact h8)])
        obtain ⟨i0, hi, hz0, hz1, hz2⟩ := info_parts info_u8
        have hmk : (Instr.makeSlice 44 (.int .i64 ((T : Int) / 8)) (.int .i64 ((T : Int) / 8))).run Try.prog wr =
            .ok (.slice (some ⟨wr.heap.size, 0, none⟩) (T / 8) (T / 8)) (wr.alloc (.cells (byteCells (T / 8) (byteF (upTo (allBits ps) 0))) 5)) := by
          have h := run_make (P := Try.prog) wr 44 5 i0 (.int .u8 0) Try.underlying44 hi hz0 .i64 .i64 ((T : Int) / 8) ((T : Int) / 8) (by omega) (Int.le_refl _) (by rw [hz2]; omega) (by omega)
          rw [show ((T : Int) / 8).toNat = T / 8 by omega, hz1, made_bytes] at h
          exact h
        obtain ⟨wo, rfl⟩ : ∃ wo : World, wo = wr := ⟨_, rfl⟩
        obtain ⟨m, hm⟩ : ∃ m, m = T / 8 := ⟨_, rfl⟩
        rw [← hm] at hmk
        have hm8 : T ≤ 8 * m := by omega
        have hm9 : m ≤ T := by omega
        have HM := Lib.hid hm
        clear h8 hm
        go_wp2
        go_loopw [8, 42] (fun t i wr => ∃ k : Nat, k ≤ ps.length ∧ i = .int .i64 k ∧ t = .int .i64 ((allBits (ps.take k)).length : Nat) ∧ Blk wr wo.heap.size 5 (byteCells m (byteF (upTo (allBits ps) (allBits (ps.take k)).length))) ∧ Below w.heap.size w wr) (fun _ i _ => ps.length - (intOf i).toNat)
        case atStart => exact ⟨0, Nat.zero_le _, rfl, rfl, Blk.fresh _ _ _, HBw.out.alloc hsz _⟩
        case round =>
          obtain ⟨k, hk, rfl, rfl, hg, hb⟩ := hrel
          by_cases hlt : k < ps.length
          · have hc := get_partCells ps k hlt
            obtain ⟨ad, rfl, hbl, hcell⟩ := (HA.out.below hb) (by rw [length_partCells]; omega)
            have c0 := hcell _ _ hc.1
            have c1 := hcell _ _ hc.2
            rw [add_succ] at c1
            clear hcell hc
            have hsz2 := hb.size
            have hgl := hg.lt
            have HBr := Lib.hid hb; clear hb
            have HG := Lib.hid hg; clear hg
            have hv2 := HV.out _ (List.getElem_mem hlt)
            have hok := of_decide_eq_true (List.all_eq_true.1 HL.out _ (List.getElem_mem hlt))
            have hle2 := len_take_mono ps k hlt
            rw [← HT.out] at hle2
            have hbit := allBits_at ps k hlt
            have hlen : (allBits (ps.take (k + 1))).length = (allBits (ps.take k)).length + ps[k].1.toNat := by rw [take_snocP ps k hlt, allBits_snoc, List.length_append, length_bitsN]
            generalize hp : ps[k] = p at c0 c1 hv2 hok hle2 hbit hlen
            obtain ⟨W, V⟩ := p
            clear hp
            simp only at c0 c1 hv2 hok hle2 hbit hlen
            obtain ⟨ha1, ha2, ha3⟩ := hok
            obtain ⟨Wn, rfl⟩ := Int.eq_ofNat_of_zero_le (show 0 ≤ W by omega)
            simp only [Int.toNat_natCast] at ha3 hle2 hbit hlen
            have Hbit := Lib.hid hbit; clear hbit
            have Hlen := Lib.hid hlen; clear hlen
            go_wp2_with fail
            refine (putBits_any (allBits ps) wo.heap.size m _ Wn V _ (bin_allBits ps) (by omega) hv2 (by omega) (by omega) Hbit.out (HG.out.alloc _)).mono ?_
            rintro e w1 ⟨rfl, hg1, ho1⟩
            have hbx := (Blk.fresh wr 43 #[.int .i64 (Wn : Int), .int .u64 (V : Int)]).grown ho1 (by intro e; injection e; omega)
            have x0 := hbx.cell 0
            simp at x0
            have hb1 := HBr.out.alloc hsz2 (.cells #[.int .i64 (Wn : Int), .int .u64 (V : Int)] 43)
            have hb2 := hb1.trans (ho1.below (B := w.heap.size) (by omega) (by simp; omega))
            have HB2 := Lib.hid hb2; clear hb2 hb1
            have HG1 := Lib.hid hg1; clear hg1
            have HO1 := Lib.hid ho1; clear ho1
            clear hbx
            go_wp2
            go_roundw
            case rel =>
              refine ⟨k + 1, by omega, by go_num, ?_, ?_, HB2.out⟩
              · rw [Hlen.out]; go_num
              · rw [Hlen.out]; exact HG1.out
            case measure => simp [intOf]; omega
          · obtain rfl : k = ps.length := by omega
            simp only [List.take_length] at hg ⊢
            have hcv := run_back (P := Try.prog) (src := 44) (dst := 9) hg (fun i => byteF_lt (fun i => upTo_lt (bin_allBits ps) _ i) i) Try.underlying44 Try.underlying5 Try.underlying9 m
            have HG := Lib.hid hg; clear hg
            have HBr := Lib.hid hb; clear hb
            go_wp2
            go_ret2
            exact ⟨ret_tup (by rw [HR.out, ← bytes_full (allBits ps) m (by rw [HM.out, HT.out])]; rfl), HBr.out⟩
      · have ht : ((T : Int) % 8 != 0) = true := by simp; omega
        have HR := Lib.hid (show packR ps = ([], 3) by unfold packR; rw [if_pos HL.out, if_neg (by rw [← HT.out]; exact h8)])
        clear h8
        go_wp2
        go_ret2
        exact ⟨ret_tup (by rw [HR.out]; rfl), HBw.out⟩
end Go.Proofs.Ytflofehnclaffaa.Fl
