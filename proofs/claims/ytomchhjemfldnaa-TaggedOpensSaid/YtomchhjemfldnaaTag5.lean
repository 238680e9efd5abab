/-
  Contracts: the statement's Of, the document's Close.
-/
import Derived.Test.YtomchhjemfldnaaTag4
namespace Go.Proofs.Ytomchhjemfldnaa.Tg
open Go.RowKit Go.Proofs.Ytomchhjemfldnaa.Bt Go.Proofs.Ytomchhjemfldnaa.Mm Go.Proofs.Ytomchhjemfldnaa.Fl Go.Proofs.Ytomchhjemfldnaa.Rf Go.Proofs.Ytomchhjemfldnaa.Hx Go.Proofs.Ytomchhjemfldnaa.Lw Go.Proofs.Ytomchhjemfldnaa.Mc

set_option maxRecDepth 100000 in
theorem of3_any (d s p v t : Nat) (dr : Bool) (b : ByteArray) (w : World) :
    Calls Try.prog 9 #[frV d s p dr v t b] w fun e w' => e = .returned (frV d s p dr v t b) ∧ Below w.heap.size w w' := by
  go_enter Try.func9, Try.ntmps9
  go_wp2
  (try simp only [Exit.inBlock, Exit.then]); refine bodyPost_ret (results_cell_row rfl _ _ (w.heap.size + 1) 34 #[.int .u64 (d : Int), .int .u64 (s : Int), .int .u8 (p : Int), .bool dr, .int .u16 (v : Int), .int .u16 (t : Int), .string b] (0, 0) _ rfl (heap_alloc2_new w _ _) Try.underlying34 rfl (by kernel_rfl)) rfl ?_
  exact ⟨rfl, ((Below.refl w.heap.size w).alloc (Nat.le_refl _) _).alloc (by simp) _⟩
theorem keep7 {w w' : World} {g : Nat} {x0 x1 x2 x3 x4 x5 x6 : Value} (hb : Below w.heap.size w w')
    (h : g < w.heap.size ∧ w.cell? ⟨g, 0, none⟩ = some x0 ∧ w.cell? ⟨g, 1, none⟩ = some x1 ∧ w.cell? ⟨g, 2, none⟩ = some x2 ∧ w.cell? ⟨g, 3, none⟩ = some x3 ∧ w.cell? ⟨g, 4, none⟩ = some x4 ∧ w.cell? ⟨g, 5, none⟩ = some x5 ∧ w.cell? ⟨g, 6, none⟩ = some x6) :
    g < w'.heap.size ∧ w'.cell? ⟨g, 0, none⟩ = some x0 ∧ w'.cell? ⟨g, 1, none⟩ = some x1 ∧ w'.cell? ⟨g, 2, none⟩ = some x2 ∧ w'.cell? ⟨g, 3, none⟩ = some x3 ∧ w'.cell? ⟨g, 4, none⟩ = some x4 ∧ w'.cell? ⟨g, 5, none⟩ = some x5 ∧ w'.cell? ⟨g, 6, none⟩ = some x6 := by
  obtain ⟨hg, h0, h1, h2, h3, h4, h5, h6⟩ := h
  exact ⟨Nat.lt_of_lt_of_le hg hb.size, cell_be h0 hb hg, cell_be h1 hb hg, cell_be h2 hb hg, cell_be h3 hb hg, cell_be h4 hb hg, cell_be h5 hb hg, cell_be h6 hb hg⟩
theorem fresh7 (w : World) (t : TypeId) (x0 x1 x2 x3 x4 x5 x6 : Value) : w.heap.size < (w.alloc (.cells #[x0, x1, x2, x3, x4, x5, x6] t)).heap.size ∧ (w.alloc (.cells #[x0, x1, x2, x3, x4, x5, x6] t)).cell? ⟨w.heap.size, 0, none⟩ = some x0 ∧ (w.alloc (.cells #[x0, x1, x2, x3, x4, x5, x6] t)).cell? ⟨w.heap.size, 1, none⟩ = some x1 ∧
    (w.alloc (.cells #[x0, x1, x2, x3, x4, x5, x6] t)).cell? ⟨w.heap.size, 2, none⟩ = some x2 ∧ (w.alloc (.cells #[x0, x1, x2, x3, x4, x5, x6] t)).cell? ⟨w.heap.size, 3, none⟩ = some x3 ∧ (w.alloc (.cells #[x0, x1, x2, x3, x4, x5, x6] t)).cell? ⟨w.heap.size, 4, none⟩ = some x4 ∧
    (w.alloc (.cells #[x0, x1, x2, x3, x4, x5, x6] t)).cell? ⟨w.heap.size, 5, none⟩ = some x5 ∧ (w.alloc (.cells #[x0, x1, x2, x3, x4, x5, x6] t)).cell? ⟨w.heap.size, 6, none⟩ = some x6 := by
  have h := Blk.fresh w t #[x0, x1, x2, x3, x4, x5, x6]
  exact ⟨h.lt, h.cell 0, h.cell 1, h.cell 2, h.cell 3, h.cell 4, h.cell 5, h.cell 6⟩
theorem rbytes_f (f : Nat → ByteArray) (hf : ∀ n, (⟨(bytesM n).toArray⟩ : ByteArray) = f n) (n : Nat) (w : World) (hn : n < 281474976710656) :
    Calls Try.prog 18 #[.int .u64 (n : Int)] w fun e w' => e = .returned (.string (f n)) ∧ Below w.heap.size w w' := by
  rw [← hf]; exact rbytes_any n w (by omega)
theorem put_f (f : Nat → ByteArray) (hf : ∀ n, (⟨(putB n 2).toArray⟩ : ByteArray) = f n) (n : Nat) (w : World) (hn : n < 65536) :
    Calls Try.prog 19 #[.int .u64 (n : Int), .int .i64 2] w fun e w' => e = .returned (.string (f n)) ∧ Below w.heap.size w w' := by
  rw [← hf]; exact put_any n 2 w (by omega) (by omega) (by simpa using hn) (by omega)

set_option maxRecDepth 100000 in
set_option maxHeartbeats 1000000 in
theorem rclose_yes (d s p v t n : Nat) (dr : Bool) (b : ByteArray) (bm pu : Nat → ByteArray) (w : World) (hm1 : mayB d = true) (hm2 : mayB s = true) (hm3 : groupB s = false) (hd : d < 281474976710656) (hs : s < 281474976710656) (hp : p ≤ 7) (hv1 : 1 ≤ v) (hv2 : v ≤ 4094) (ht : 1536 ≤ t) (ht2 : t < 65536) (hl : b.size ≤ 1582)
    (hn : p * 8192 + (if dr = true then 4096 else 0) + v = n) (hf : ∀ n, (⟨(bytesM n).toArray⟩ : ByteArray) = bm n) (hu : ∀ n, (⟨(putB n 2).toArray⟩ : ByteArray) = pu n)
    (z1 : (bm d).size ≤ 6) (z2 : (bm s).size ≤ 6) (z3 : (pu n).size ≤ 2) (z4 : (pu t).size ≤ 2) :
    Calls Try.prog 8 #[frV d s p dr v t b] w fun e w' => e = .returned (.tuple #[.string (bm d ++ bm s ++ ⟨#[129, 0]⟩ ++ pu n ++ pu t ++ b), .int .i64 0]) ∧ Below w.heap.size w w' := by
  have M1 := Lib.hid hm1; clear hm1
  have M2 := Lib.hid hm2; clear hm2
  have M3 := Lib.hid hm3; clear hm3
  have HF := Lib.hid hf; clear hf
  have HU := Lib.hid hu; clear hu
  have n16 : n < 65536 := by rw [← hn]; split <;> omega
  have q0 : IntKind.u64.wrap (p : Int) = (p : Int) := IntWalk.u64_in _ ⟨by omega, by omega⟩
  have q1 : IntKind.u64.wrap (v : Int) = (v : Int) := IntWalk.u64_in _ ⟨by omega, by omega⟩
  have q3 : IntKind.u64.wrap (t : Int) = (t : Int) := IntWalk.u64_in _ ⟨by omega, by omega⟩
  have y1 : ¬ 9223372036854775807 < (bm d).size + (bm s).size := by omega
  have y2 : ¬ 9223372036854775807 < (bm d).size + (bm s).size + 2 := by omega
  have y3 : ¬ 9223372036854775807 < (bm d).size + (bm s).size + 2 + (pu n).size := by omega
  have y4 : ¬ 9223372036854775807 < (bm d).size + (bm s).size + 2 + (pu n).size + (pu t).size := by omega
  have y5 : ¬ 9223372036854775807 < (bm d).size + (bm s).size + 2 + (pu n).size + (pu t).size + b.size := by omega
  have v0 : ((v : Int) == 0) = false := by simp; omega
  cases dr with
  | false =>
    have HN := Lib.hid (show (p : Int) * 8192 + (v : Int) = (n : Int) by rw [← hn]; simp); clear hn
    go_enter Try.func8, Try.ntmps8
    go_wp2_with fail
    have HB := Lib.hid ((Below.refl w.heap.size w).alloc (Nat.le_refl _) (.cells #[.int .u64 (d : Int), .int .u64 (s : Int), .int .u8 (p : Int), .bool false, .int .u16 (v : Int), .int .u16 (t : Int), .string b] 34))
    refine (rmay_b true d _ M1.out).mono ?_
    rintro e w1 ⟨rfl, rfl⟩
    go_wp2_with fail
    refine (rmay_b true s _ M2.out).mono ?_
    rintro e w1 ⟨rfl, rfl⟩
    go_wp2_with fail
    refine (rgroup_b false s _ M3.out (by omega)).mono ?_
    rintro e w1 ⟨rfl, rfl⟩
    go_wp2_with fail
    rw [HN.out]
    have K0 := fresh7 w 34 (.int .u64 (d : Int)) (.int .u64 (s : Int)) (.int .u8 (p : Int)) (.bool false) (.int .u16 (v : Int)) (.int .u16 (t : Int)) (.string b)
    generalize (w.alloc (.cells #[.int .u64 (d : Int), .int .u64 (s : Int), .int .u8 (p : Int), .bool false, .int .u16 (v : Int), .int .u16 (t : Int), .string b] 34)) = wA at HB K0 ⊢
    have HA := Lib.hid HB.out.size
    go_region_held3 (fun w' => w.heap.size < w'.heap.size ∧ w'.cell? ⟨w.heap.size, 0, none⟩ = some (.int .u64 (d : Int)) ∧ w'.cell? ⟨w.heap.size, 1, none⟩ = some (.int .u64 (s : Int)) ∧ w'.cell? ⟨w.heap.size, 2, none⟩ = some (.int .u8 (p : Int)) ∧ w'.cell? ⟨w.heap.size, 3, none⟩ = some (.bool false) ∧ w'.cell? ⟨w.heap.size, 4, none⟩ = some (.int .u16 (v : Int)) ∧ w'.cell? ⟨w.heap.size, 5, none⟩ = some (.int .u16 (t : Int)) ∧ w'.cell? ⟨w.heap.size, 6, none⟩ = some (.string b)) (first | exact K0 | exact keep7 hb2 (by assumption))
      (first | (go_at_call 18; refine (rbytes_f bm HF.out _ _ (by assumption)).mono ?_; rintro e w2 ⟨rfl, hb2⟩; (first | have HB := Lib.hid (HB.out.trans (hb2.mono HA.out)) | have HB := Lib.hid (HB.out.drew.trans (hb2.mono HA.out))); have HA := Lib.hid (Nat.le_trans HA.out hb2.size)) | (go_at_call 19; refine (put_f pu HU.out _ _ (by assumption)).mono ?_; rintro e w2 ⟨rfl, hb2⟩; (first | have HB := Lib.hid (HB.out.trans (hb2.mono HA.out)) | have HB := Lib.hid (HB.out.drew.trans (hb2.mono HA.out))); have HA := Lib.hid (Nat.le_trans HA.out hb2.size)))
    go_wp2
    go_ret2
    exact ⟨rfl, HB.out⟩
  | true =>
    have HN := Lib.hid (show (p : Int) * 8192 + (v : Int) + 4096 = (n : Int) by rw [← hn]; simp; omega); clear hn
    go_enter Try.func8, Try.ntmps8
    go_wp2_with fail
    have HB := Lib.hid ((Below.refl w.heap.size w).alloc (Nat.le_refl _) (.cells #[.int .u64 (d : Int), .int .u64 (s : Int), .int .u8 (p : Int), .bool true, .int .u16 (v : Int), .int .u16 (t : Int), .string b] 34))
    refine (rmay_b true d _ M1.out).mono ?_
    rintro e w1 ⟨rfl, rfl⟩
    go_wp2_with fail
    refine (rmay_b true s _ M2.out).mono ?_
    rintro e w1 ⟨rfl, rfl⟩
    go_wp2_with fail
    refine (rgroup_b false s _ M3.out (by omega)).mono ?_
    rintro e w1 ⟨rfl, rfl⟩
    go_wp2_with fail
    rw [HN.out]
    have K0 := fresh7 w 34 (.int .u64 (d : Int)) (.int .u64 (s : Int)) (.int .u8 (p : Int)) (.bool true) (.int .u16 (v : Int)) (.int .u16 (t : Int)) (.string b)
    generalize (w.alloc (.cells #[.int .u64 (d : Int), .int .u64 (s : Int), .int .u8 (p : Int), .bool true, .int .u16 (v : Int), .int .u16 (t : Int), .string b] 34)) = wA at HB K0 ⊢
    have HA := Lib.hid HB.out.size
    go_region_held3 (fun w' => w.heap.size < w'.heap.size ∧ w'.cell? ⟨w.heap.size, 0, none⟩ = some (.int .u64 (d : Int)) ∧ w'.cell? ⟨w.heap.size, 1, none⟩ = some (.int .u64 (s : Int)) ∧ w'.cell? ⟨w.heap.size, 2, none⟩ = some (.int .u8 (p : Int)) ∧ w'.cell? ⟨w.heap.size, 3, none⟩ = some (.bool true) ∧ w'.cell? ⟨w.heap.size, 4, none⟩ = some (.int .u16 (v : Int)) ∧ w'.cell? ⟨w.heap.size, 5, none⟩ = some (.int .u16 (t : Int)) ∧ w'.cell? ⟨w.heap.size, 6, none⟩ = some (.string b)) (first | exact K0 | exact keep7 hb2 (by assumption))
      (first | (go_at_call 18; refine (rbytes_f bm HF.out _ _ (by assumption)).mono ?_; rintro e w2 ⟨rfl, hb2⟩; (first | have HB := Lib.hid (HB.out.trans (hb2.mono HA.out)) | have HB := Lib.hid (HB.out.drew.trans (hb2.mono HA.out))); have HA := Lib.hid (Nat.le_trans HA.out hb2.size)) | (go_at_call 19; refine (put_f pu HU.out _ _ (by assumption)).mono ?_; rintro e w2 ⟨rfl, hb2⟩; (first | have HB := Lib.hid (HB.out.trans (hb2.mono HA.out)) | have HB := Lib.hid (HB.out.drew.trans (hb2.mono HA.out))); have HA := Lib.hid (Nat.le_trans HA.out hb2.size)))
    go_wp2
    go_ret2
    exact ⟨rfl, HB.out⟩

set_option maxRecDepth 100000 in
set_option maxHeartbeats 1000000 in
theorem rclose_no (d s p v t k : Nat) (dr : Bool) (b : ByteArray) (w : World) (hs : s < 18446744073709551616) (hb : b.size ≤ 2000) (hw : wrongT (frT d s p dr v t b) = k) (hk : k ≠ 0) :
    Calls Try.prog 8 #[frV d s p dr v t b] w fun e w' => e = .returned (.tuple #[.string ⟨#[]⟩, .int .i64 (k : Int)]) ∧ Below w.heap.size w w' := by
  obtain ⟨m1, hm1⟩ : ∃ m, mayB d = m := ⟨_, rfl⟩
  obtain ⟨m2, hm2⟩ : ∃ m, mayB s = m := ⟨_, rfl⟩
  obtain ⟨m3, hm3⟩ : ∃ m, groupB s = m := ⟨_, rfl⟩
  have H1 := Lib.hid hm1; clear hm1
  have H2 := Lib.hid hm2; clear hm2
  have H3 := Lib.hid hm3; clear hm3
  have HW := Lib.hid hw; clear hw
  have HB := Lib.hid ((Below.refl w.heap.size w).alloc (Nat.le_refl _) (.cells #[.int .u64 (d : Int), .int .u64 (s : Int), .int .u8 (p : Int), .bool dr, .int .u16 (v : Int), .int .u16 (t : Int), .string b] 34))
  cases m1 with
  | false =>
    obtain rfl : k = 3 := HW.out.symm.trans (w3 _ (.inl H1.out))
    go_enter Try.func8, Try.ntmps8
    go_wp2_with fail
    refine (rmay_b false d _ H1.out).mono ?_
    rintro e w1 ⟨rfl, rfl⟩
    go_wp2
    go_ret2
    exact ⟨rfl, HB.out⟩
  | true =>
    cases m2 with
    | false =>
      obtain rfl : k = 3 := HW.out.symm.trans (w3 _ (.inr (.inl H2.out)))
      go_enter Try.func8, Try.ntmps8
      go_wp2_with fail
      refine (rmay_b true d _ H1.out).mono ?_
      rintro e w1 ⟨rfl, rfl⟩
      go_wp2_with fail
      refine (rmay_b false s _ H2.out).mono ?_
      rintro e w1 ⟨rfl, rfl⟩
      go_wp2
      go_ret2
      exact ⟨rfl, HB.out⟩
    | true =>
      go_enter Try.func8, Try.ntmps8
      go_wp2_with fail
      refine (rmay_b true d _ H1.out).mono ?_
      rintro e w1 ⟨rfl, rfl⟩
      go_wp2_with fail
      refine (rmay_b true s _ H2.out).mono ?_
      rintro e w1 ⟨rfl, rfl⟩
      go_wp2_with fail
      refine (rgroup_b m3 s _ H3.out hs).mono ?_
      rintro e w1 ⟨rfl, rfl⟩
      cases m3 with
      | true =>
        obtain rfl : k = 3 := HW.out.symm.trans (w3 _ (.inr (.inr H3.out)))
        go_wp2
        go_ret2
        exact ⟨rfl, HB.out⟩
      | false =>
        have HA := Lib.hid (w_addr (frT d s p dr v t b) H1.out H2.out H3.out)
        by_cases c1 : 7 < p
        · obtain rfl : k = 4 := HW.out.symm.trans (w4 _ HA.out (.inl c1))
          have c1' : decide ((7 : Int) < (p : Int)) = true := by simp; omega
          go_wp2
          go_ret2
          exact ⟨rfl, HB.out⟩
        have c1' : decide ((7 : Int) < (p : Int)) = false := by simp; omega
        by_cases c2 : v = 0
        · obtain rfl : k = 4 := HW.out.symm.trans (w4 _ HA.out (.inr (.inl c2)))
          have c2' : ((v : Int) == 0) = true := by simp [c2]
          clear c2
          go_wp2
          go_ret2
          exact ⟨rfl, HB.out⟩
        have c2' : ((v : Int) == 0) = false := by simp; omega
        by_cases c3 : 4094 < v
        · obtain rfl : k = 4 := HW.out.symm.trans (w4 _ HA.out (.inr (.inr c3)))
          have c3' : decide ((4094 : Int) < (v : Int)) = true := by simp; omega
          go_wp2
          go_ret2
          exact ⟨rfl, HB.out⟩
        have c3' : decide ((4094 : Int) < (v : Int)) = false := by simp; omega
        have HR := Lib.hid (w_range (frT d s p dr v t b) (by show p ≤ 7; omega) (by show 1 ≤ v; omega) (by show v ≤ 4094; omega))
        by_cases c4 : t < 1536
        · obtain rfl : k = 6 := HW.out.symm.trans (by unfold wrongT; rw [if_neg (by rw [HA.out]; simp), if_neg (by rw [HR.out]; simp), if_pos c4])
          go_wp2
          go_ret2
          exact ⟨rfl, HB.out⟩
        have hbl := size_list b
        have HL := Lib.hid hbl; clear hbl
        by_cases c5 : 1582 < b.size
        · obtain rfl : k = 2 := HW.out.symm.trans (by unfold wrongT; rw [if_neg (by rw [HA.out]; simp), if_neg (by rw [HR.out]; simp), if_neg c4, if_pos (by rw [HL.out]; omega)])
          go_wp2
          go_ret2
          exact ⟨rfl, HB.out⟩
        · exact absurd (HW.out.symm.trans (by unfold wrongT; rw [if_neg (by rw [HA.out]; simp), if_neg (by rw [HR.out]; simp), if_neg c4, if_neg (by rw [HL.out]; omega)])) hk

theorem rclose_at {bs : List UInt8} {k : Nat} (d s p v t : Nat) (dr : Bool) (b : ByteArray) (w : World) (h : closeT (frT d s p dr v t b) = (bs, k)) (hs : s < 18446744073709551616) (ht16 : t < 65536) (hb : b.size ≤ 2000) :
    Calls Try.prog 8 #[frV d s p dr v t b] w fun e w' => e = .returned (.tuple #[.string ⟨bs.toArray⟩, .int .i64 (k : Int)]) ∧ Below w.heap.size w w' := by
  rw [closeT_wrong] at h
  by_cases hw : wrongT (frT d s p dr v t b) = 0
  · rw [if_pos hw] at h
    simp only [Prod.mk.injEq] at h
    obtain ⟨rfl, rfl⟩ := h
    obtain ⟨ha, hr, hty, hln⟩ := wrongT_zero hw
    obtain ⟨hd, hs', hg⟩ := addr_parts ha
    obtain ⟨hp, hv1, hv2⟩ := range_parts hr
    simp only at hd hs' hg hp hv1 hv2 hln hty
    rw [size_list] at hln
    have z6 : ∀ x, x < 281474976710656 → (⟨(bytesM x).toArray⟩ : ByteArray).size ≤ 6 := fun x hx => by rw [size_mk, length_bytesM hx]; omega
    have z2 : ∀ x, (⟨(putB x 2).toArray⟩ : ByteArray).size ≤ 2 := fun x => by rw [size_mk, length_putB]; omega
    have := rclose_yes d s p v t _ dr b (fun n => ⟨(bytesM n).toArray⟩) (fun n => ⟨(putB n 2).toArray⟩) w (decide_eq_true hd) (decide_eq_true hs') hg hd hs' hp hv1 hv2 hty ht16 (by omega) rfl (fun _ => rfl) (fun _ => rfl) (z6 _ hd) (z6 _ hs') (z2 _) (z2 _)
    have e : (⟨(frameBytes (frT d s p dr v t b)).toArray⟩ : ByteArray) = (⟨(bytesM d).toArray⟩ : ByteArray) ++ ⟨(bytesM s).toArray⟩ ++ ⟨#[129, 0]⟩ ++ ⟨(putB (p * 8192 + (if dr = true then 4096 else 0) + v) 2).toArray⟩ ++ ⟨(putB t 2).toArray⟩ ++ b := by
      apply ba_ext
      simp only [list_app]
      simp [frameBytes, tci]
    rw [e]
    exact this
  · rw [if_neg hw] at h
    simp only [Prod.mk.injEq] at h
    obtain ⟨rfl, rfl⟩ := h
    exact rclose_no d s p v t _ dr b w hs hb rfl hw
end Go.Proofs.Ytomchhjemfldnaa.Tg
