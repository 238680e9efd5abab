/-
  Plain lemmas on addresses: their bytes, their texts, and back.
  Contracts: mac's May, Group, Bytes, digit, digitValue, Of; the document's May, Group, Bytes, digit, char, Put, Get.
  Contracts: mac's Bytes, Of; the document's Put, Bytes, Get.
  Contracts: mac's Parse; the document's Parse.
-/
import Derived.Test.YteaghbdeleaanaaFld
import Derived.Test.YteaghbdeleaanaaLawF
namespace Go.Proofs.Yteaghbdeleaanaa.Hx
open Go.Proofs.Yteaghbdeleaanaa.Bt Go.Proofs.Yteaghbdeleaanaa.Fl

/-- the digit of a number below 16, as a byte's number -/
def hexD (n : Nat) : Nat := if n < 10 then 48 + n else 87 + n
/-- is it a digit? -/
def hexOk (c : Nat) : Bool := decide ((48 ≤ c ∧ c ≤ 57) ∨ (97 ≤ c ∧ c ≤ 102))
/-- its number -/
def hexN (c : Nat) : Nat := if c ≤ 57 then c - 48 else c - 87
theorem hexD_lt {n : Nat} (h : n < 16) : hexD n < 256 := by unfold hexD; split <;> omega
theorem hexOk_D {n : Nat} (h : n < 16) : hexOk (hexD n) = true := by unfold hexOk hexD; rw [decide_eq_true_eq]; split <;> omega
theorem hexN_D {n : Nat} (h : n < 16) : hexN (hexD n) = n := by unfold hexN hexD; split <;> split <;> omega
theorem hexN_lt {c : Nat} (h : hexOk c = true) : hexN c < 16 := by unfold hexOk at h; rw [decide_eq_true_eq] at h; unfold hexN; split <;> omega
theorem hexD_N {c : Nat} (h : hexOk c = true) : hexD (hexN c) = c := by unfold hexOk at h; rw [decide_eq_true_eq] at h; unfold hexN hexD; split <;> split <;> omega

/-- an address's bytes; none, if the number is no address -/
def bytesM (n : Nat) : List UInt8 := (packR [(48, n)]).1
theorem bytesM_no {n : Nat} (h : ¬ n < 281474976710656) : packR [(48, n)] = ([], 4) := by
  unfold packR
  rw [if_neg]
  simp only [List.all_cons, List.all_nil, Bool.and_true, okP, decide_eq_true_eq]
  have e48 : 2 ^ Int.toNat 48 = 281474976710656 := by decide
  omega
theorem bytesM_yes {n : Nat} (h : n < 281474976710656) : packR [(48, n)] = (bytesOf (bitsN n 48), 0) := by
  have e : allBits [(48, n)] = bitsN n 48 := by simp [allBits]
  unfold packR
  rw [if_pos, e, if_pos]
  · simp
  · simp only [List.all_cons, List.all_nil, Bool.and_true, okP, decide_eq_true_eq]
    have e48 : 2 ^ Int.toNat 48 = 281474976710656 := by decide
    omega
theorem length_bytesM {n : Nat} (h : n < 281474976710656) : (bytesM n).length = 6 := by
  unfold bytesM
  rw [bytesM_yes h, length_bytesOf, length_bitsN]
theorem length_bytesM_le (n : Nat) : (bytesM n).length ≤ 6 := by
  by_cases h : n < 281474976710656
  · rw [length_bytesM h]; omega
  · unfold bytesM; rw [bytesM_no h]; simp

/-- a byte's pair of digits, behind what is there -/
def textStep (acc : List UInt8) (c : UInt8) : List UInt8 := (if acc = [] then [] else acc ++ [58]) ++ [UInt8.ofNat (hexD (c.toNat / 16)), UInt8.ofNat (hexD (c.toNat % 16))]
/-- bytes' text -/
def text (l : List UInt8) : List UInt8 := l.foldl textStep []
theorem text_snoc (l : List UInt8) (c : UInt8) : text (l ++ [c]) = textStep (text l) c := by simp [text]
theorem text_nil_iff (l : List UInt8) : text l = [] ↔ l = [] := by
  constructor
  · intro h
    rcases List.eq_nil_or_concat l with rfl | ⟨r, c, rfl⟩
    · rfl
    · rw [List.concat_eq_append, text_snoc] at h
      simp [textStep] at h
  · rintro rfl; rfl
theorem length_text (l : List UInt8) : (text l).length = 3 * l.length - 1 := by
  obtain ⟨n, hn⟩ : ∃ n, n = l.length := ⟨_, rfl⟩
  induction n generalizing l with
  | zero => have : l = [] := List.eq_nil_of_length_eq_zero hn.symm; subst this; rfl
  | succ n ih =>
    rcases List.eq_nil_or_concat l with rfl | ⟨r, c, rfl⟩
    · simp at hn
    · rw [List.concat_eq_append] at hn ⊢
      have hr : n = r.length := by simp at hn; exact hn
      have := ih r hr
      rw [text_snoc]
      unfold textStep
      split
      · rename_i h
        have := (text_nil_iff r).1 h
        subst this
        simp
      · rename_i h
        have hne : r ≠ [] := fun e => h ((text_nil_iff r).2 e)
        have : 0 < r.length := List.length_pos_iff.2 hne
        simp
        omega
theorem text_six (a b c d e f : UInt8) : text [a, b, c, d, e, f] = [UInt8.ofNat (hexD (a.toNat / 16)), UInt8.ofNat (hexD (a.toNat % 16)), 58, UInt8.ofNat (hexD (b.toNat / 16)), UInt8.ofNat (hexD (b.toNat % 16)), 58,
    UInt8.ofNat (hexD (c.toNat / 16)), UInt8.ofNat (hexD (c.toNat % 16)), 58, UInt8.ofNat (hexD (d.toNat / 16)), UInt8.ofNat (hexD (d.toNat % 16)), 58,
    UInt8.ofNat (hexD (e.toNat / 16)), UInt8.ofNat (hexD (e.toNat % 16)), 58, UInt8.ofNat (hexD (f.toNat / 16)), UInt8.ofNat (hexD (f.toNat % 16))] := by
  simp [text, textStep]

/-- byte i of a text, as a number -/
def at_ (s : List UInt8) (i : Nat) : Nat := (s.getD i 0).toNat
/-- both digits of pair i are digits -/
def dOk (s : List UInt8) (i : Nat) : Bool := hexOk (at_ s (3 * i)) && hexOk (at_ s (3 * i + 1))
def cOk (s : List UInt8) (i : Nat) : Bool := at_ s (3 * i + 2) == 58
/-- the number of the first k pairs -/
def pv (s : List UInt8) : Nat → Nat
  | 0 => 0
  | k + 1 => pv s k * 256 + (hexN (at_ s (3 * k)) * 16 + hexN (at_ s (3 * k + 1)))
def good (s : List UInt8) : Bool := s.length == 17 && ((List.range 6).all (dOk s) && (List.range 5).all (cOk s))
/-- what Parse answers -/
def parseR (s : List UInt8) : Nat × Nat := if good s = true then (pv s 6, 0) else (0, 3)
theorem pv_lt (s : List UInt8) : ∀ k, (∀ i, i < k → dOk s i = true) → pv s k < 256 ^ k
  | 0, _ => by simp [pv]
  | k + 1, h => by
    have ih := pv_lt s k (fun i hi => h i (by omega))
    have hk := h k (by omega)
    unfold dOk at hk
    rw [Bool.and_eq_true] at hk
    have h1 := hexN_lt hk.1
    have h2 := hexN_lt hk.2
    rw [Nat.pow_succ]
    unfold pv
    omega
theorem good_of {s : List UInt8} (h : s.length = 17) (hd : ∀ i, i < 6 → dOk s i = true) (hc : ∀ i, i < 5 → cOk s i = true) : good s = true := by
  unfold good
  rw [Bool.and_eq_true, Bool.and_eq_true, List.all_eq_true, List.all_eq_true]
  exact ⟨by simpa using h, fun i hi => hd i (by simpa using hi), fun i hi => hc i (by simpa using hi)⟩
theorem good_parts {s : List UInt8} (h : good s = true) : s.length = 17 ∧ (∀ i, i < 6 → dOk s i = true) ∧ (∀ i, i < 5 → cOk s i = true) := by
  unfold good at h
  rw [Bool.and_eq_true, Bool.and_eq_true, List.all_eq_true, List.all_eq_true] at h
  exact ⟨by simpa using h.1, fun i hi => h.2.1 i (by simpa using hi), fun i hi => h.2.2 i (by simpa using hi)⟩
theorem not_good_len {s : List UInt8} (h : s.length ≠ 17) : parseR s = (0, 3) := by
  unfold parseR
  rw [if_neg]
  intro hg; exact h (good_parts hg).1
theorem not_good_d {s : List UInt8} (i : Nat) (hi : i < 6) (h : dOk s i = false) : parseR s = (0, 3) := by
  unfold parseR
  rw [if_neg]
  intro hg; rw [(good_parts hg).2.1 i hi] at h; cases h
theorem not_good_c {s : List UInt8} (i : Nat) (hi : i < 5) (h : cOk s i = false) : parseR s = (0, 3) := by
  unfold parseR
  rw [if_neg]
  intro hg; rw [(good_parts hg).2.2 i hi] at h; cases h
theorem parse_good {s : List UInt8} (h : good s = true) : parseR s = (pv s 6, 0) := by unfold parseR; rw [if_pos h]

theorem val_bitsB : ∀ l : List UInt8, val (bitsB l) = l.foldl (fun a c => a * 256 + c.toNat) 0 := by
  intro l
  obtain ⟨n, hn⟩ : ∃ n, n = l.length := ⟨_, rfl⟩
  induction n generalizing l with
  | zero => have : l = [] := List.eq_nil_of_length_eq_zero hn.symm; subst this; rfl
  | succ n ih =>
    rcases List.eq_nil_or_concat l with rfl | ⟨r, c, rfl⟩
    · simp at hn
    · rw [List.concat_eq_append] at hn ⊢
      have hr : n = r.length := by simp at hn; exact hn
      rw [bitsB_append, List.foldl_append, ← ih r hr]
      have e : bitsB [c] = bitsN c.toNat 8 := by simp [bitsB]
      rw [e]
      have h8 : ∀ k (l m : List Nat), m.length = k → val (l ++ m) = val l * 2 ^ k + val m := by
        intro k
        induction k with
        | zero => intro l m hm; have : m = [] := List.eq_nil_of_length_eq_zero hm; subst this; simp [val_nil]
        | succ k ihk =>
          intro l m hm
          rcases List.eq_nil_or_concat m with rfl | ⟨q, b, rfl⟩
          · simp at hm
          · rw [List.concat_eq_append] at hm ⊢
            rw [← List.append_assoc, val_snoc, val_snoc, ihk l q (by simp at hm; exact hm), Nat.pow_succ, ← Nat.mul_assoc, Nat.mul_add]
            omega
      rw [h8 8 _ _ (by simp), val_bitsN, Nat.mod_eq_of_lt (UInt8.toNat_lt c)]
      rfl
/-- an address's bytes tell it -/
theorem val_bytesM {n : Nat} (h : n < 281474976710656) : (bytesM n).foldl (fun a c => a * 256 + c.toNat) 0 = n := by
  unfold bytesM
  rw [bytesM_yes h, ← val_bitsB, bitsB_bytesOf (bin_bitsN n 48) (by simp), val_bitsN, Nat.mod_eq_of_lt (by simpa using h)]
theorem bytesM_val (l : List UInt8) (h : l.length = 6) : bytesM (l.foldl (fun a c => a * 256 + c.toNat) 0) = l := by
  rw [← val_bitsB]
  have hlt : val (bitsB l) < 281474976710656 := by
    have := val_lt (bin_bitsB l)
    rw [length_bitsB, h] at this
    simpa using this
  unfold bytesM
  rw [bytesM_yes hlt]
  have e := bitsN_val (bin_bitsB l)
  rw [length_bitsB, h] at e
  show bytesOf (bitsN (val (bitsB l)) (8 * 6)) = l
  rw [e, bytesOf_bitsB]
theorem list_six {α : Type} (l : List α) (h : l.length = 6) : ∃ a b c d e f, l = [a, b, c, d, e, f] := by
  match l, h with
  | [a, b, c, d, e, f], _ => exact ⟨a, b, c, d, e, f, rfl⟩
theorem toNat_hexD {n : Nat} (h : n < 16) : (UInt8.ofNat (hexD n)).toNat = hexD n := ofNat_toNat _ (hexD_lt h)
theorem pair_val (a : UInt8) : hexN (UInt8.ofNat (hexD (a.toNat / 16))).toNat * 16 + hexN (UInt8.ofNat (hexD (a.toNat % 16))).toNat = a.toNat := by
  have ha := UInt8.toNat_lt a
  rw [toNat_hexD (by omega), toNat_hexD (by omega), hexN_D (by omega), hexN_D (by omega)]
  omega
theorem pair_ok (a : UInt8) : hexOk (UInt8.ofNat (hexD (a.toNat / 16))).toNat = true ∧ hexOk (UInt8.ofNat (hexD (a.toNat % 16))).toNat = true := by
  have ha := UInt8.toNat_lt a
  rw [toNat_hexD (by omega), toNat_hexD (by omega)]
  exact ⟨hexOk_D (by omega), hexOk_D (by omega)⟩
theorem parse_six (a b c d e f : UInt8) : parseR (text [a, b, c, d, e, f]) = ([a, b, c, d, e, f].foldl (fun x y => x * 256 + y.toNat) 0, 0) := by
  rw [text_six]
  have pa := pair_ok a; have pb := pair_ok b; have pc := pair_ok c; have pd := pair_ok d; have pe := pair_ok e; have pf := pair_ok f
  have va := pair_val a; have vb := pair_val b; have vc := pair_val c; have vd := pair_val d; have ve := pair_val e; have vf := pair_val f
  generalize UInt8.ofNat (hexD (a.toNat / 16)) = a0 at *
  generalize UInt8.ofNat (hexD (a.toNat % 16)) = a1 at *
  generalize UInt8.ofNat (hexD (b.toNat / 16)) = b0 at *
  generalize UInt8.ofNat (hexD (b.toNat % 16)) = b1 at *
  generalize UInt8.ofNat (hexD (c.toNat / 16)) = c0 at *
  generalize UInt8.ofNat (hexD (c.toNat % 16)) = c1 at *
  generalize UInt8.ofNat (hexD (d.toNat / 16)) = d0 at *
  generalize UInt8.ofNat (hexD (d.toNat % 16)) = d1 at *
  generalize UInt8.ofNat (hexD (e.toNat / 16)) = e0 at *
  generalize UInt8.ofNat (hexD (e.toNat % 16)) = e1 at *
  generalize UInt8.ofNat (hexD (f.toNat / 16)) = f0 at *
  generalize UInt8.ofNat (hexD (f.toNat % 16)) = f1 at *
  have hg : good [a0, a1, 58, b0, b1, 58, c0, c1, 58, d0, d1, 58, e0, e1, 58, f0, f1] = true := by
    refine good_of rfl (fun i hi => ?_) (fun i hi => ?_)
    · rcases (by omega : i = 0 ∨ i = 1 ∨ i = 2 ∨ i = 3 ∨ i = 4 ∨ i = 5) with rfl | rfl | rfl | rfl | rfl | rfl
      · simp [dOk, at_, pa]
      · simp [dOk, at_, pb]
      · simp [dOk, at_, pc]
      · simp [dOk, at_, pd]
      · simp [dOk, at_, pe]
      · simp [dOk, at_, pf]
    · rcases (by omega : i = 0 ∨ i = 1 ∨ i = 2 ∨ i = 3 ∨ i = 4) with rfl | rfl | rfl | rfl | rfl <;> rfl
  rw [parse_good hg]
  simp [pv, at_, va, vb, vc, vd, ve, vf]
/-- a text of an address tells it -/
theorem parse_text {n : Nat} (h : n < 281474976710656) : parseR (text (bytesM n)) = (n, 0) := by
  have hv := val_bytesM h
  obtain ⟨a, b, c, d, e, f, hl⟩ := list_six _ (length_bytesM h)
  rw [hl] at hv ⊢
  rw [parse_six, hv]
theorem dOk_parts {s : List UInt8} {i : Nat} (h : dOk s i = true) : hexOk (at_ s (3 * i)) = true ∧ hexOk (at_ s (3 * i + 1)) = true := by
  unfold dOk at h
  rwa [Bool.and_eq_true] at h
/-- what is read is written as it was -/
theorem text_parse {s : List UInt8} (h : good s = true) : text (bytesM (pv s 6)) = s := by
  obtain ⟨hl, hd, hc⟩ := good_parts h
  obtain ⟨x, hx⟩ : ∃ x : Nat → Nat, ∀ i, x i = hexN (at_ s (3 * i)) * 16 + hexN (at_ s (3 * i + 1)) := ⟨_, fun _ => rfl⟩
  have hb : ∀ i, i < 6 → x i < 256 ∧ x i / 16 = hexN (at_ s (3 * i)) ∧ x i % 16 = hexN (at_ s (3 * i + 1)) := by
    intro i hi
    have := dOk_parts (hd i hi)
    have h1 := hexN_lt this.1
    have h2 := hexN_lt this.2
    rw [hx]
    omega
  have e : pv s 6 = [UInt8.ofNat (x 0), UInt8.ofNat (x 1), UInt8.ofNat (x 2), UInt8.ofNat (x 3), UInt8.ofNat (x 4), UInt8.ofNat (x 5)].foldl (fun a c => a * 256 + c.toNat) 0 := by
    simp only [List.foldl_cons, List.foldl_nil, ofNat_toNat _ (hb 0 (by omega)).1, ofNat_toNat _ (hb 1 (by omega)).1, ofNat_toNat _ (hb 2 (by omega)).1, ofNat_toNat _ (hb 3 (by omega)).1, ofNat_toNat _ (hb 4 (by omega)).1, ofNat_toNat _ (hb 5 (by omega)).1]
    simp only [pv, hx]
  rw [e, bytesM_val _ rfl, text_six]
  simp only [ofNat_toNat _ (hb 0 (by omega)).1, ofNat_toNat _ (hb 1 (by omega)).1, ofNat_toNat _ (hb 2 (by omega)).1, ofNat_toNat _ (hb 3 (by omega)).1, ofNat_toNat _ (hb 4 (by omega)).1, ofNat_toNat _ (hb 5 (by omega)).1,
    (hb 0 (by omega)).2, (hb 1 (by omega)).2, (hb 2 (by omega)).2, (hb 3 (by omega)).2, (hb 4 (by omega)).2, (hb 5 (by omega)).2,
    hexD_N (dOk_parts (hd 0 (by omega))).1, hexD_N (dOk_parts (hd 0 (by omega))).2, hexD_N (dOk_parts (hd 1 (by omega))).1, hexD_N (dOk_parts (hd 1 (by omega))).2, hexD_N (dOk_parts (hd 2 (by omega))).1, hexD_N (dOk_parts (hd 2 (by omega))).2,
    hexD_N (dOk_parts (hd 3 (by omega))).1, hexD_N (dOk_parts (hd 3 (by omega))).2, hexD_N (dOk_parts (hd 4 (by omega))).1, hexD_N (dOk_parts (hd 4 (by omega))).2, hexD_N (dOk_parts (hd 5 (by omega))).1, hexD_N (dOk_parts (hd 5 (by omega))).2]
  have hcc : ∀ i, i < 5 → s.getD (3 * i + 2) 0 = 58 := by
    intro i hi
    have := hc i hi
    simp only [cOk, at_, beq_iff_eq] at this
    exact UInt8.toNat_inj.1 (by simpa using this)
  have c0 := hcc 0 (by omega); have c1 := hcc 1 (by omega); have c2 := hcc 2 (by omega); have c3 := hcc 3 (by omega); have c4 := hcc 4 (by omega)
  clear hcc hb hx e hd hc h
  match s, hl with
  | [s0, s1, s2, s3, s4, s5, s6, s7, s8, s9, s10, s11, s12, s13, s14, s15, s16], _ =>
    simp at c0 c1 c2 c3 c4
    subst c0 c1 c2 c3 c4
    simp [at_]
end Go.Proofs.Yteaghbdeleaanaa.Hx
namespace Go.Proofs.Yteaghbdeleaanaa.Mc
open Go.RowKit Go.Proofs.Yteaghbdeleaanaa.Bt Go.Proofs.Yteaghbdeleaanaa.Mm Go.Proofs.Yteaghbdeleaanaa.Fl Go.Proofs.Yteaghbdeleaanaa.Rf Go.Proofs.Yteaghbdeleaanaa.Hx Go.Proofs.Yteaghbdeleaanaa.Lw

def mayB (n : Nat) : Bool := decide (n < 281474976710656)
def groupB (n : Nat) : Bool := mayB n && (n / 1099511627776 % 2 == 1)

theorem may_b (b : Bool) (n : Nat) (w : World) (h : mayB n = b) :
    Calls Try.prog 17 #[.int .u64 (n : Int)] w fun e w' => e = .returned (.bool b) ∧ w = w' := by
  have hb : decide ((n : Int) ≤ 281474976710655) = b := by
    rw [← h]; unfold mayB; rw [decide_eq_decide]; omega
  clear h
  go_enter Try.func17, Try.ntmps17
  go_wp2
  go_ret
  exact ⟨rfl, rfl⟩
theorem group_bit (n : Nat) (hn : n < 18446744073709551616) : (bits .and .u64 ((n : Int) / 1099511627776) 1 == 1) = (n / 1099511627776 % 2 == 1) := by
  have e := and_u64 n 40 hn
  have e40 : (2 : Int) ^ 40 = 1099511627776 := by decide
  have e41 : (2 : Nat) ^ 40 = 1099511627776 := by decide
  rw [e40, e41] at e
  rw [e, Bool.eq_iff_iff]
  simp only [beq_iff_eq]
  omega
theorem group_any (n : Nat) (w : World) (hn : n < 18446744073709551616) :
    Calls Try.prog 8 #[.int .u64 (n : Int)] w fun e w' => e = .returned (.bool (groupB n)) ∧ w = w' := by
  have hg := group_bit n hn
  have HG := Lib.hid hg; clear hg
  by_cases h : n < 281474976710656
  · have hm : mayB n = true := decide_eq_true h
    have HM := Lib.hid hm; clear hm
    go_enter Try.func8, Try.ntmps8
    go_wp2_with (go_at_call 17; refine (may_b true n _ HM.out).mono ?_; rintro e w' ⟨rfl, rfl⟩)
    go_ret
    exact ⟨ret_bool (by unfold groupB; rw [HM.out, ← HG.out]; rfl), rfl⟩
  · have hm : mayB n = false := decide_eq_false h
    have HM := Lib.hid hm; clear hm
    go_enter Try.func8, Try.ntmps8
    go_wp2_with (go_at_call 17; refine (may_b false n _ HM.out).mono ?_; rintro e w' ⟨rfl, rfl⟩)
    go_ret
    exact ⟨ret_bool (by unfold groupB; rw [HM.out]; rfl), rfl⟩
theorem dv_yes (c : Nat) (w : World) (h : hexOk c = true) :
    Calls Try.prog 39 #[.int .u8 (c : Int)] w fun e w' => e = .returned (.tuple #[.int .u64 (hexN c : Nat), .bool true]) ∧ w = w' := by
  have h' := of_decide_eq_true h
  clear h
  rcases h' with ⟨h1, h2⟩ | ⟨h1, h2⟩
  · go_enter Try.func39, Try.ntmps39
    go_wp2
    go_ret2
    exact ⟨ret_tup (by unfold hexN; rw [if_pos h2, show ((c - 48 : Nat) : Int) = (c : Int) - 48 by omega]; rfl), rfl⟩
  · have h3 : ¬ (c : Int) ≤ 57 := by omega
    go_enter Try.func39, Try.ntmps39
    go_wp2
    go_ret2
    exact ⟨ret_tup (by unfold hexN; rw [if_neg (by omega), show ((c - 87 : Nat) : Int) = (c : Int) - 97 + 10 by omega]; rfl), rfl⟩
theorem dv_no (c : Nat) (w : World) (h : hexOk c = false) :
    Calls Try.prog 39 #[.int .u8 (c : Int)] w fun e w' => e = .returned (.tuple #[.int .u64 0, .bool false]) ∧ w = w' := by
  have h' := of_decide_eq_false h
  clear h
  by_cases h1 : 48 ≤ c
  · have h2 : ¬ (c : Int) ≤ 57 := by omega
    by_cases h3 : 97 ≤ c
    · have h4 : ¬ (c : Int) ≤ 102 := by omega
      clear h'
      go_enter Try.func39, Try.ntmps39
      go_wp2
      go_ret2
      exact ⟨rfl, rfl⟩
    · clear h'
      go_enter Try.func39, Try.ntmps39
      go_wp2
      go_ret2
      exact ⟨rfl, rfl⟩
  · clear h'
    go_enter Try.func39, Try.ntmps39
    go_wp2
    go_ret2
    exact ⟨rfl, rfl⟩
end Go.Proofs.Yteaghbdeleaanaa.Mc
namespace Go.Proofs.Yteaghbdeleaanaa.Mc
open Go.RowKit Go.Proofs.Yteaghbdeleaanaa.Bt Go.Proofs.Yteaghbdeleaanaa.Mm Go.Proofs.Yteaghbdeleaanaa.Fl Go.Proofs.Yteaghbdeleaanaa.Rf Go.Proofs.Yteaghbdeleaanaa.Hx Go.Proofs.Yteaghbdeleaanaa.Lw

theorem one_part (n : Nat) (hn : n < 18446744073709551616) : ∀ p ∈ [((48 : Int), n)], p.2 < 18446744073709551616 := by
  intro p hp
  simp at hp
  subst hp
  exact hn
theorem below_one {w w1 : World} (o : Obj) (h : Below (w.heap.size + 1) (w.alloc o) w1) : Below w.heap.size w w1 := ((Below.refl w.heap.size w).alloc (Nat.le_refl _) o).trans (h.mono (by omega))

theorem bytes_any (n : Nat) (w : World) (hn : n < 18446744073709551616) :
    Calls Try.prog 32 #[.int .u64 (n : Int)] w fun e w' => e = .returned (.string ⟨(bytesM n).toArray⟩) ∧ Below w.heap.size w w' := by
  obtain ⟨b, k, hp⟩ : ∃ b k, packR [(48, n)] = (b, k) := ⟨_, _, rfl⟩
  have hb : bytesM n = b := by unfold bytesM; rw [hp]
  have HP := Lib.hid hp; clear hp
  rw [hb]
  clear hb
  go_enter Try.func32, Try.ntmps32
  go_wp2_with fail
  refine (pack_lit [(48, n)] _ _ _ _ _ _ w rfl rfl (by simp) (one_part n hn) HP.out).mono ?_
  rintro e w1 ⟨rfl, hb⟩
  have HB := Lib.hid (below_one _ hb); clear hb
  go_wp2
  go_ret
  exact ⟨rfl, HB.out⟩
/-! ### Of -/
theorem splitR48 (s : ByteArray) : splitR s [48] = if 6 ≤ s.size then ([getB s 0 48], s.extract 6 s.size, 0) else ([], ⟨#[]⟩, 1) := by
  have e1 : ([48] : List Int).all okW = true := by decide
  have e2 : tot [48] = 48 := by decide
  unfold splitR
  rw [if_pos e1, e2, if_pos (by decide)]
  by_cases h : 6 ≤ s.size
  · rw [if_pos (by omega), if_pos h]
    rfl
  · rw [if_neg (by omega), if_neg h]
theorem getB48 (s : ByteArray) (h : s.size = 6) : getB s 0 48 = s.data.toList.foldl (fun a c => a * 256 + c.toNat) 0 := by
  unfold getB
  rw [List.drop_zero, List.take_of_length_le (by rw [length_bitsB, size_list]; omega), val_bitsB]
/-- what Of answers -/
def ofR (s : List UInt8) : Nat × Nat := if s.length < 6 then (0, 1) else if 6 < s.length then (0, 2) else (s.foldl (fun a c => a * 256 + c.toNat) 0, 0)
end Go.Proofs.Yteaghbdeleaanaa.Mc
namespace Go.Proofs.Yteaghbdeleaanaa.Mc
open Go.RowKit Go.Proofs.Yteaghbdeleaanaa.Bt Go.Proofs.Yteaghbdeleaanaa.Mm Go.Proofs.Yteaghbdeleaanaa.Fl Go.Proofs.Yteaghbdeleaanaa.Rf Go.Proofs.Yteaghbdeleaanaa.Hx Go.Proofs.Yteaghbdeleaanaa.Lw

theorem at_get (s : ByteArray) (i : Nat) (h : i < s.size) : at_ s.data.toList i = s[i].toNat := by
  unfold at_
  rw [List.getD_eq_getElem?_getD, List.getElem?_eq_getElem (by rw [size_list]; exact h)]
  rfl
theorem or_pair (x h l : Nat) (hx : x < 1099511627776) (hh : h < 16) (hl : l < 16) :
    bits .or .u64 (bits .or .u64 ((x : Int) * 256) ((h : Int) * 16)) (l : Int) = ((x * 256 + (h * 16 + l) : Nat) : Int) := by
  have e1 : ((x : Int) * 256) = ((x * 256 : Nat) : Int) := by rw [Int.natCast_mul]; rfl
  have e2 : ((h : Int) * 16) = ((h * 16 : Nat) : Int) := by rw [Int.natCast_mul]; rfl
  rw [e1, e2, u64_or_nat _ _ (by omega) (by omega), nat_join 8 (x * 256) (h * 16) (by omega) (by omega), u64_or_nat _ _ (by omega) (by omega), nat_join 4 (x * 256 + h * 16) l (by omega) (by omega), Nat.add_assoc]
theorem pv_small (s : List UInt8) (k : Nat) (hk : k ≤ 5) (h : ∀ i, i < k → dOk s i = true) : pv s k < 1099511627776 := by
  have h1 := pv_lt s k h
  have h2 : 256 ^ k ≤ 256 ^ 5 := Nat.pow_le_pow_right (by omega) hk
  have h3 : 256 ^ 5 = 1099511627776 := by decide
  omega
theorem beq58 (s : ByteArray) (i : Nat) (h : i < s.size) : (((s[i].toNat : Nat) : Int) != 58) = !(at_ s.data.toList i == 58) := by
  rw [at_get s i h, Bool.eq_iff_iff]
  simp
  omega

def dvN (c : Nat) : Nat := if hexOk c = true then hexN c else 0
theorem dv_any (c : Nat) (w : World) : Calls Try.prog 39 #[.int .u8 (c : Int)] w fun e w' => e = .returned (.tuple #[.int .u64 (dvN c : Nat), .bool (hexOk c)]) ∧ w = w' := by
  cases h : hexOk c with
  | true =>
    unfold dvN
    rw [if_pos h]
    exact dv_yes c w h
  | false =>
    unfold dvN
    rw [h, if_neg (by simp)]
    exact dv_no c w h

set_option maxRecDepth 100000 in
set_option maxHeartbeats 1000000 in
theorem parse_any (s : ByteArray) (w : World) (hs : s.size ≤ maxLen) :
    Calls Try.prog 30 #[.string s] w fun e w' => e = .returned (.tuple #[.int .u64 ((parseR s.data.toList).1 : Nat), .int .i64 ((parseR s.data.toList).2 : Nat)]) ∧ w = w' := by
  unfold maxLen at hs
  by_cases h17 : s.size = 17
  · have hn : ((s.size : Int) != 17) = false := by rw [h17]; rfl
    have hs1 : s.size ≤ 17 := by omega
    have hs2 : 17 ≤ s.size := by omega
    have HLEN := Lib.hid (show s.data.toList.length = 17 by rw [size_list]; exact h17)
    clear h17
    go_enter Try.func30, Try.ntmps30
    go_wp2
    go_loop [4, 14] (fun a i => ∃ k : Nat, k ≤ 6 ∧ i = .int .i64 k ∧ a = .int .u64 (pv s.data.toList k : Nat) ∧ (∀ i, i < k → dOk s.data.toList i = true) ∧ (∀ i, i + 1 < k → cOk s.data.toList i = true)) (fun _ i => 6 - (intOf i).toNat)
    case atStart => exact ⟨0, by omega, rfl, rfl, fun i hi => by omega, fun i hi => by omega⟩
    case round =>
      obtain ⟨k, hk, rfl, rfl, hd, hc⟩ := hrel
      have HD := Lib.hid hd; clear hd
      have HC := Lib.hid hc; clear hc
      by_cases hlt : k < 6
      · have hpv := pv_small s.data.toList k (by omega) HD.out
        have e0 := at_get s (k * 3) (by omega)
        have e1 := at_get s (k * 3 + 1) (by omega)
        have hpn : pv s.data.toList (k + 1) = pv s.data.toList k * 256 + (hexN s[k * 3].toNat * 16 + hexN s[k * 3 + 1].toNat) := by
          rw [← e0, ← e1, Nat.mul_comm k 3]; rfl
        have hdk : dOk s.data.toList k = (hexOk s[k * 3].toNat && hexOk s[k * 3 + 1].toNat) := by
          rw [← e0, ← e1, Nat.mul_comm k 3]; rfl
        clear e0 e1
        have HPN := Lib.hid hpn; clear hpn
        have HDK := Lib.hid hdk; clear hdk
        generalize pv s.data.toList k = x at *
        by_cases hck : 0 < k ∧ cOk s.data.toList (k - 1) = false
        · obtain ⟨hk0, hcf⟩ := hck
          have hb := beq58 s (k * 3 - 1) (by omega)
          have HR := Lib.hid (not_good_c (k - 1) (by omega) hcf)
          have h58 : ((s[k * 3 - 1].toNat : Int) != 58) = true := by
            rw [hb, show k * 3 - 1 = 3 * (k - 1) + 2 by omega]
            unfold cOk at hcf
            rw [hcf]; rfl
          clear hb hcf
          go_wp2
          go_ret2
          exact ⟨ret_tup (by rw [HR.out]; rfl), rfl⟩
        · have hcn : ∀ i, i + 1 < k + 1 → cOk s.data.toList i = true := by
            intro i hi
            by_cases e : i + 1 < k
            · exact HC.out i e
            · have ek : i = k - 1 := by omega
              subst ek
              by_cases hk0 : 0 < k
              · cases hv : cOk s.data.toList (k - 1) with
                | true => rfl
                | false => exact absurd ⟨hk0, hv⟩ hck
              · omega
          have HCN := Lib.hid hcn; clear hcn
          have h58 : 0 < k → ((s[k * 3 - 1]'(by omega)).toNat != (58 : Int)) = false := by
            intro hk0
            have hb := beq58 s (k * 3 - 1) (by omega)
            rw [hb, show k * 3 - 1 = 3 * (k - 1) + 2 by omega]
            have := HCN.out (k - 1) (by omega)
            unfold cOk at this
            rw [this]; rfl
          clear hck
          have HND := Lib.hid (fun (h : dOk s.data.toList k = false) => not_good_d k hlt h)
          have d0 := dv_any s[k * 3].toNat w
          have d1 := dv_any s[k * 3 + 1].toNat w
          have hn0 : hexOk s[k * 3].toNat = true → hexN s[k * 3].toNat < 16 := hexN_lt
          have hn1 : hexOk s[k * 3 + 1].toNat = true → hexN s[k * 3 + 1].toNat < 16 := hexN_lt
          unfold dvN at d0 d1
          generalize hexOk s[k * 3].toNat = b0 at *
          generalize hexOk s[k * 3 + 1].toNat = b1 at *
          generalize hexN s[k * 3].toNat = v0 at *
          generalize hexN s[k * 3 + 1].toNat = v1 at *
          have D0 := Lib.hid d0; clear d0
          have D1 := Lib.hid d1; clear d1
          by_cases hk0 : 0 < k
          all_goals
            (first | (have h58' := h58 hk0) | skip)
            clear h58
            cases b0 <;> cases b1
          all_goals
            simp only [if_true, if_false, Bool.false_eq_true, true_imp_iff, false_imp_iff] at D0 D1 hn0 hn1
            go_wp2_with fail
            refine D0.out.mono ?_
            rintro e w' ⟨rfl, rfl⟩
            go_wp2_with fail
            refine D1.out.mono ?_
            rintro e w' ⟨rfl, rfl⟩
            go_wp2
          all_goals first
            | (go_ret2
               exact ⟨ret_tup (by rw [HND.out (by rw [HDK.out]; rfl)]; rfl), rfl⟩)
            | (go_round
               case rel =>
                 refine ⟨k + 1, by omega, by go_num, ?_, fun i hi => ?_, HCN.out⟩
                 · rw [HPN.out, ← or_pair x v0 v1 hpv hn0 hn1]
                 · by_cases e : i < k
                   · exact HD.out i e
                   · obtain rfl : i = k := by omega
                     rw [HDK.out]; rfl
               case measure => simp [intOf]; omega)
      · obtain rfl : k = 6 := by omega
        have HR := Lib.hid (parse_good (good_of HLEN.out HD.out (fun i hi => HC.out i (by omega))))
        go_wp2
        go_ret2
        exact ⟨ret_tup (by rw [HR.out]; rfl), rfl⟩
  · have hn : ((s.size : Int) != 17) = true := by simp; omega
    have HR := Lib.hid (not_good_len (s := s.data.toList) (by rw [size_list]; exact h17))
    clear h17
    go_enter Try.func30, Try.ntmps30
    go_wp2
    go_ret2
    exact ⟨ret_tup (by rw [HR.out]; rfl), rfl⟩
end Go.Proofs.Yteaghbdeleaanaa.Mc
