/-
  Contracts of raps' small functions and of the document's wrong.
-/
import Derived.Test.YtnapbmdkaldncaaRaps
namespace Go.Proofs.Ytnapbmdkaldncaa.Rp
open Go.RowKit Go.Proofs.Ytnapbmdkaldncaa.Bt Go.Proofs.Ytnapbmdkaldncaa.Mm Go.Proofs.Ytnapbmdkaldncaa.Fl Go.Proofs.Ytnapbmdkaldncaa.Lw Go.Proofs.Ytnapbmdkaldncaa.Hx Go.Proofs.Ytnapbmdkaldncaa.Mc Go.Proofs.Ytnapbmdkaldncaa.Tg Go.Proofs.Ytnapbmdkaldncaa.Oa

/-- a message as a value -/
abbrev msV (q : Nat) (b k e : Bool) (n : Nat) : Value := .agg #[.int .u8 (q : Int), .bool b, .bool k, .bool e, .int .u64 (n : Int)]
/-- a message's cells -/
abbrev msC (q : Nat) (b k e : Bool) (n : Nat) : Array Value := #[.int .u8 (q : Int), .bool b, .bool k, .bool e, .int .u64 (n : Int)]
theorem eq_t {a : Nat} {b : Int} (h : (a : Int) = b) : ((a : Int) == b) = true := by simpa using h
theorem eq_f {a : Nat} {b : Int} (h : ¬ (a : Int) = b) : ((a : Int) == b) = false := by simpa using h
theorem neq_t {a : Nat} {b : Int} (h : ¬ (a : Int) = b) : ((a : Int) != b) = true := by simpa using h
theorem neq_f {a : Nat} {b : Int} (h : (a : Int) = b) : ((a : Int) != b) = false := by simpa using h

theorem bv_any (b : Bool) (w : World) : Calls Try.prog 35 #[.bool b] w fun e w' => e = .returned (.int .u64 (bitN b 1 : Nat)) ∧ w = w' := by
  cases b
  · go_enter Try.func35, Try.ntmps35
    go_wp2
    go_ret
    exact ⟨rfl, rfl⟩
  · go_enter Try.func35, Try.ntmps35
    go_wp2
    go_ret
    exact ⟨rfl, rfl⟩

set_option maxHeartbeats 1000000 in
theorem wrong_kind (q : Nat) (b k e : Bool) (n : Nat) (w : World) (h0 : q ≠ 0) (h7 : q ≠ 7) (h11 : q ≠ 11) (h13 : q ≠ 13) :
    Calls Try.prog 22 #[msV q b k e n] w fun x w' => x = .returned (.int .i64 8) ∧ Below w.heap.size w w' := by
  have HB := Lib.hid ((Below.refl w.heap.size w).alloc (Nat.le_refl _) (.cells (msC q b k e n) 26))
  have q0 : ((q : Int) == 0) = false := eq_f (by omega)
  have q7 : ((q : Int) == 7) = false := eq_f (by omega)
  have q11 : ((q : Int) == 11) = false := eq_f (by omega)
  have q13 : ((q : Int) == 13) = false := eq_f (by omega)
  clear h0 h7 h11 h13
  go_enter Try.func22, Try.ntmps22
  go_wp2
  go_ret
  exact ⟨rfl, HB.out⟩
set_option maxHeartbeats 1000000 in
theorem wrong_block (q : Nat) (k e : Bool) (n : Nat) (w : World) (h : q = 7 ∨ q = 11 ∨ q = 13) :
    Calls Try.prog 22 #[msV q true k e n] w fun x w' => x = .returned (.int .i64 3) ∧ Below w.heap.size w w' := by
  have HB := Lib.hid ((Below.refl w.heap.size w).alloc (Nat.le_refl _) (.cells (msC q true k e n) 26))
  by_cases h7 : q = 7
  · have q7 : ((q : Int) == 7) = true := eq_t (by omega)
    clear h h7
    go_enter Try.func22, Try.ntmps22
    go_wp2
    go_ret
    exact ⟨rfl, HB.out⟩
  have q7 : ((q : Int) == 7) = false := eq_f (by omega)
  by_cases h11 : q = 11
  · have q11 : ((q : Int) == 11) = true := eq_t (by omega)
    clear h h7 h11
    go_enter Try.func22, Try.ntmps22
    go_wp2
    go_ret
    exact ⟨rfl, HB.out⟩
  have q11 : ((q : Int) == 11) = false := eq_f (by omega)
  have q13 : ((q : Int) == 13) = true := eq_t (by omega)
  clear h h7 h11
  go_enter Try.func22, Try.ntmps22
  go_wp2
  go_ret
  exact ⟨rfl, HB.out⟩
set_option maxHeartbeats 1000000 in
theorem wrong_node (q : Nat) (b k e : Bool) (n : Nat) (m g : Bool) (r : Int) (w : World) (h : ((q = 7 ∨ q = 11 ∨ q = 13) ∧ b = false) ∨ q = 0) (hm : mayB n = m) (hg : groupB n = g) (hn : n < 18446744073709551616) (hr : (if m = false ∨ g = true then 4 else 0) = r) :
    Calls Try.prog 22 #[msV q b k e n] w fun x w' => x = .returned (.int .i64 r) ∧ Below w.heap.size w w' := by
  have HB := Lib.hid ((Below.refl w.heap.size w).alloc (Nat.le_refl _) (.cells (msC q b k e n) 26))
  have HM := Lib.hid hm; clear hm
  have HG := Lib.hid hg; clear hg
  have HN := Lib.hid hn; clear hn
  by_cases h7 : q = 7
  · have q7 : ((q : Int) == 7) = true := eq_t (by omega)
    obtain rfl : b = false := by rcases h with h | h; exact h.2; omega
    clear h h7
    cases m <;> cases g <;> simp at hr <;> subst hr <;>
    · go_enter Try.func22, Try.ntmps22
      go_wp2_with (first | (go_at_call 42; refine (may_b _ n _ HM.out).mono ?_; rintro e w' ⟨rfl, rfl⟩) | (go_at_call 43; refine (group_b _ n _ HG.out HN.out).mono ?_; rintro e w' ⟨rfl, rfl⟩))
      go_ret
      exact ⟨rfl, HB.out⟩
  have q7 : ((q : Int) == 7) = false := eq_f (by omega)
  by_cases h11 : q = 11
  · have q11 : ((q : Int) == 11) = true := eq_t (by omega)
    obtain rfl : b = false := by rcases h with h | h; exact h.2; omega
    clear h h7 h11
    cases m <;> cases g <;> simp at hr <;> subst hr <;>
    · go_enter Try.func22, Try.ntmps22
      go_wp2_with (first | (go_at_call 42; refine (may_b _ n _ HM.out).mono ?_; rintro e w' ⟨rfl, rfl⟩) | (go_at_call 43; refine (group_b _ n _ HG.out HN.out).mono ?_; rintro e w' ⟨rfl, rfl⟩))
      go_ret
      exact ⟨rfl, HB.out⟩
  have q11 : ((q : Int) == 11) = false := eq_f (by omega)
  by_cases h13 : q = 13
  · have q13 : ((q : Int) == 13) = true := eq_t (by omega)
    obtain rfl : b = false := by rcases h with h | h; exact h.2; omega
    clear h h7 h11 h13
    cases m <;> cases g <;> simp at hr <;> subst hr <;>
    · go_enter Try.func22, Try.ntmps22
      go_wp2_with (first | (go_at_call 42; refine (may_b _ n _ HM.out).mono ?_; rintro e w' ⟨rfl, rfl⟩) | (go_at_call 43; refine (group_b _ n _ HG.out HN.out).mono ?_; rintro e w' ⟨rfl, rfl⟩))
      go_ret
      exact ⟨rfl, HB.out⟩
  have q13 : ((q : Int) == 13) = false := eq_f (by omega)
  have q0 : ((q : Int) == 0) = true := eq_t (by omega)
  clear h h7 h11 h13
  cases m <;> cases g <;> simp at hr <;> subst hr <;>
  · go_enter Try.func22, Try.ntmps22
    go_wp2_with (first | (go_at_call 42; refine (may_b _ n _ HM.out).mono ?_; rintro e w' ⟨rfl, rfl⟩) | (go_at_call 43; refine (group_b _ n _ HG.out HN.out).mono ?_; rintro e w' ⟨rfl, rfl⟩))
    go_ret
    exact ⟨rfl, HB.out⟩
theorem kind_cases (q : Nat) : kindB q = decide (q = 0 ∨ q = 7 ∨ q = 11 ∨ q = 13) := by
  unfold kindB
  rw [Bool.eq_iff_iff]
  simp
theorem wrong_at {r : Nat} (q : Nat) (b k e : Bool) (n : Nat) (w : World) (h : wrongM ⟨q, b, k, e, n⟩ = r) (hn : n < 18446744073709551616) :
    Calls Try.prog 22 #[msV q b k e n] w fun x w' => x = .returned (.int .i64 (r : Int)) ∧ Below w.heap.size w w' := by
  unfold wrongM at h
  simp only at h
  rw [kind_cases] at h
  by_cases h1 : q = 0 ∨ q = 7 ∨ q = 11 ∨ q = 13
  · rw [if_neg (by rw [decide_eq_true h1]; simp)] at h
    by_cases h2 : b = true ∧ q ≠ 0
    · rw [if_pos h2] at h
      obtain ⟨rfl, h2⟩ := h2
      subst h
      exact wrong_block q k e n w (by omega)
    · rw [if_neg h2] at h
      refine wrong_node q b k e n _ _ _ w ?_ rfl rfl hn ?_
      · by_cases hq : q = 0
        · exact .inr hq
        · exact .inl ⟨by omega, by cases b <;> simp_all⟩
      · rw [← h]
        split <;> rfl
  · rw [if_pos (decide_eq_false h1)] at h
    subst h
    exact wrong_kind q b k e n w (by omega) (by omega) (by omega) (by omega)
set_option maxHeartbeats 1000000 in
theorem rwrong_kind (q : Nat) (b k e : Bool) (n : Nat) (w : World) (h0 : q ≠ 0) (h7 : q ≠ 7) (h11 : q ≠ 11) (h13 : q ≠ 13) :
    Calls Try.prog 26 #[msV q b k e n] w fun x w' => x = .returned (.int .i64 8) ∧ Below w.heap.size w w' := by
  have HB := Lib.hid ((Below.refl w.heap.size w).alloc (Nat.le_refl _) (.cells (msC q b k e n) 33))
  have q0 : ((q : Int) != 0) = true := neq_t (by omega)
  have q7 : ((q : Int) != 7) = true := neq_t (by omega)
  have q11 : ((q : Int) != 11) = true := neq_t (by omega)
  have q13 : ((q : Int) != 13) = true := neq_t (by omega)
  clear h0 h7 h11 h13
  go_enter Try.func26, Try.ntmps26
  go_wp2
  go_ret
  exact ⟨rfl, HB.out⟩
set_option maxHeartbeats 1000000 in
theorem rwrong_block (q : Nat) (k e : Bool) (n : Nat) (w : World) (h : q = 7 ∨ q = 11 ∨ q = 13) :
    Calls Try.prog 26 #[msV q true k e n] w fun x w' => x = .returned (.int .i64 3) ∧ Below w.heap.size w w' := by
  have HB := Lib.hid ((Below.refl w.heap.size w).alloc (Nat.le_refl _) (.cells (msC q true k e n) 33))
  have q0 : ((q : Int) != 0) = true := neq_t (by omega)
  obtain ⟨b7, h7⟩ : ∃ b7, ((q : Int) != 7) = b7 := ⟨_, rfl⟩
  obtain ⟨b11, h11⟩ : ∃ b11, ((q : Int) != 11) = b11 := ⟨_, rfl⟩
  obtain ⟨b13, h13⟩ : ∃ b13, ((q : Int) != 13) = b13 := ⟨_, rfl⟩
  have hn : ¬ (b7 = true ∧ b11 = true ∧ b13 = true) := by
    rintro ⟨rfl, rfl, rfl⟩
    simp only [bne_iff_ne, ne_eq] at h7 h11 h13
    omega
  clear h
  cases b7 <;> cases b11 <;> cases b13 <;> simp at hn <;>
  · go_enter Try.func26, Try.ntmps26
    go_wp2
    go_ret
    exact ⟨rfl, HB.out⟩
set_option maxHeartbeats 2000000 in
theorem rwrong_node (q : Nat) (b k e : Bool) (n : Nat) (m g : Bool) (r : Int) (w : World) (h : ((q = 7 ∨ q = 11 ∨ q = 13) ∧ b = false) ∨ q = 0) (hm : mayB n = m) (hg : groupB n = g) (hn : n < 18446744073709551616) (hr : (if m = false ∨ g = true then 4 else 0) = r) :
    Calls Try.prog 26 #[msV q b k e n] w fun x w' => x = .returned (.int .i64 r) ∧ Below w.heap.size w w' := by
  have HB := Lib.hid ((Below.refl w.heap.size w).alloc (Nat.le_refl _) (.cells (msC q b k e n) 33))
  have HM := Lib.hid hm; clear hm
  have HG := Lib.hid hg; clear hg
  have HN := Lib.hid hn; clear hn
  obtain ⟨b0, h0⟩ : ∃ b0, ((q : Int) != 0) = b0 := ⟨_, rfl⟩
  obtain ⟨b7, h7⟩ : ∃ b7, ((q : Int) != 7) = b7 := ⟨_, rfl⟩
  obtain ⟨b11, h11⟩ : ∃ b11, ((q : Int) != 11) = b11 := ⟨_, rfl⟩
  obtain ⟨b13, h13⟩ : ∃ b13, ((q : Int) != 13) = b13 := ⟨_, rfl⟩
  have hn : ¬ (b0 = true ∧ b7 = true ∧ b11 = true ∧ b13 = true) := by
    rintro ⟨rfl, rfl, rfl, rfl⟩
    simp only [bne_iff_ne, ne_eq] at h0 h7 h11 h13
    omega
  have hb : b0 = true → b = false := by
    rintro rfl
    simp only [bne_iff_ne, ne_eq] at h0
    rcases h with h | h
    · exact h.2
    · exact absurd (by omega) h0
  clear h
  cases b0
  · clear h7 h11 h13 hn hb
    cases b <;> cases m <;> cases g <;> simp at hr <;> subst hr <;>
    · go_enter Try.func26, Try.ntmps26
      go_wp2_with (first | (go_at_call 46; refine (rmay_b _ n _ HM.out).mono ?_; rintro e w' ⟨rfl, rfl⟩) | (go_at_call 47; refine (rgroup_b _ n _ HG.out HN.out).mono ?_; rintro e w' ⟨rfl, rfl⟩))
      go_ret
      exact ⟨rfl, HB.out⟩
  · obtain rfl := hb rfl
    clear hb
    cases m <;> cases g <;> simp at hr <;> subst hr <;> cases b7 <;> cases b11 <;> cases b13 <;> simp at hn <;>
    · go_enter Try.func26, Try.ntmps26
      go_wp2_with (first | (go_at_call 46; refine (rmay_b _ n _ HM.out).mono ?_; rintro e w' ⟨rfl, rfl⟩) | (go_at_call 47; refine (rgroup_b _ n _ HG.out HN.out).mono ?_; rintro e w' ⟨rfl, rfl⟩))
      go_ret
      exact ⟨rfl, HB.out⟩
theorem rwrong_at {r : Nat} (q : Nat) (b k e : Bool) (n : Nat) (w : World) (h : wrongM ⟨q, b, k, e, n⟩ = r) (hn : n < 18446744073709551616) :
    Calls Try.prog 26 #[msV q b k e n] w fun x w' => x = .returned (.int .i64 (r : Int)) ∧ Below w.heap.size w w' := by
  unfold wrongM at h
  simp only at h
  rw [kind_cases] at h
  by_cases h1 : q = 0 ∨ q = 7 ∨ q = 11 ∨ q = 13
  · rw [if_neg (by rw [decide_eq_true h1]; simp)] at h
    by_cases h2 : b = true ∧ q ≠ 0
    · rw [if_pos h2] at h
      obtain ⟨rfl, h2⟩ := h2
      subst h
      exact rwrong_block q k e n w (by omega)
    · rw [if_neg h2] at h
      refine rwrong_node q b k e n _ _ _ w ?_ rfl rfl hn ?_
      · by_cases hq : q = 0
        · exact .inr hq
        · exact .inl ⟨by omega, by cases b <;> simp_all⟩
      · rw [← h]
        split <;> rfl
  · rw [if_pos (decide_eq_false h1)] at h
    subst h
    exact rwrong_kind q b k e n w (by omega) (by omega) (by omega) (by omega)

/-- what boolParts hands on -/
def PartsPost (ps : List (Int × Nat)) (w : World) (e : Ending) (w' : World) : Prop :=
  ∃ (R : Option Addr) (rc : Nat), e = .returned (.slice R ps.length rc) ∧ w'.ownsRow w.heap.size 58 2 (.slice R ps.length rc) ps.length (partCells ps) ∧ Below w.heap.size w w'
def bitPs (bs : List Bool) : List (Int × Nat) := bs.map fun b => (1, bitN b 1)
set_option maxRecDepth 100000 in
set_option maxHeartbeats 1000000 in
theorem parts_any (bs : List Bool) (A : Option Addr) (c : Nat) (w : World) (hm : bs.length ≤ 1000) (hA : Rd w w.heap.size A (bs.map Value.bool)) :
    Calls Try.prog 23 #[.slice A bs.length c] w (PartsPost (bitPs bs) w) := by
  have HA := Lib.hid hA; clear hA
  obtain ⟨i0, hi, hz0, hz1, hz2⟩ := info_parts info_fpart
  go_enter Try.func23, Try.ntmps23
  go_wp2_with fail
  go_loopw [3, 8] (fun v i wr => ∃ (k : Nat) (R : Option Addr) (rc : Nat), k ≤ bs.length ∧ i = .int .i64 k ∧ v = .slice R k rc ∧ wr.ownsRow w.heap.size 58 2 (.slice R k rc) k (partCells (bitPs (bs.take k))) ∧ Below w.heap.size w wr) (fun _ i _ => bs.length - (intOf i).toNat)
  case atStart => exact ⟨0, none, 0, Nat.zero_le _, rfl, rfl, World.ownsRow_nil _ _ _ _, Below.refl _ _⟩
  case round =>
    obtain ⟨k, R, rc, hk, rfl, rfl, hown, hb⟩ := hrel
    by_cases hlt : k < bs.length
    · obtain ⟨ad, rfl, hbl, hcell⟩ := (HA.out.below hb) (by simp; omega)
      have c0 := hcell k (.bool bs[k]) (by simp [hlt])
      clear hcell
      have hsz := hb.size
      have HB := Lib.hid hb; clear hb
      have HO := Lib.hid hown; clear hown
      generalize hp : bs[k] = p at c0
      have HP := Lib.hid hp; clear hp
      go_wp2_with fail
      refine (bv_any p wr).mono ?_
      rintro e w' ⟨rfl, rfl⟩
      generalize hV : bitN p 1 = V
      have HVV := Lib.hid hV; clear hV
      go_wp2_with (at_builtin; refine wpList_append_own _ rfl (.tmp 12) (.tmp 16) 59 rfl w.heap.size 58 i0 (.agg #[.int .i64 0, .int .u64 0]) 2 16 Try.underlying59 hi hz0 hz1 hz2 rfl (by decide) _ _ _ rfl (HO.out.alloc _) ⟨wr.heap.size, 0, none⟩ 1 1 [.int .i64 1, .int .u64 (V : Int)] rfl rfl (cells_new _ _ _ _ _ (by simp) rfl) (by intro u hu; simp at hu; rcases hu with rfl | rfl <;> rfl) (by unfold maxLen; omega) (by omega) (by simp; omega) ?_; intro v' w2 hown' hgrow _)
      obtain ⟨R', c', rfl⟩ := own_slice hown'
      have HB3 := Lib.hid (below_own (HB.out.alloc hsz _) (HO.out.alloc _) (by simp; omega) hgrow)
      have HO3 := Lib.hid hown'
      clear hown' hgrow
      go_roundw
      case rel =>
        refine ⟨k + 1, R', c', by omega, by go_num, by go_num, ?_, HB3.out⟩
        have e : partCells (bitPs (bs.take (k + 1))) = partCells (bitPs (bs.take k)) ++ [.int .i64 1, .int .u64 (V : Int)] := by
          rw [List.take_succ_eq_append_getElem hlt, HP.out]
          simp [partCells, bitPs, HVV.out]
        rw [e]
        exact HO3.out
      case measure => simp [intOf]; omega
    · obtain rfl : k = bs.length := by omega
      rw [List.take_length] at hown
      have HB := Lib.hid hb; clear hb
      have HO := Lib.hid hown; clear hown
      go_wp2
      go_ret
      have hl : (bitPs bs).length = bs.length := by simp [bitPs]
      exact ⟨R, rc, by rw [hl]; rfl, by rw [hl]; exact HO.out, HB.out⟩
end Go.Proofs.Ytnapbmdkaldncaa.Rp
