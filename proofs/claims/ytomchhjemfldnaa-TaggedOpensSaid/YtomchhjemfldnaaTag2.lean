/-
  Contracts: tagged's wrong and dropValue.
-/
import Derived.Test.YtomchhjemfldnaaTag
import Derived.Test.YtomchhjemfldnaaLaw4
namespace Go.Proofs.Ytomchhjemfldnaa.Tg
open Go.RowKit Go.Proofs.Ytomchhjemfldnaa.Bt Go.Proofs.Ytomchhjemfldnaa.Mm Go.Proofs.Ytomchhjemfldnaa.Fl Go.Proofs.Ytomchhjemfldnaa.Rf Go.Proofs.Ytomchhjemfldnaa.Hx Go.Proofs.Ytomchhjemfldnaa.Lw Go.Proofs.Ytomchhjemfldnaa.Mc

/-- what is wrong with a frame -/
def wrongT (f : Fr) : Nat := if badAddr f = true then 3 else if badRange f = true then 4 else if f.type < 1536 then 6 else if 1600 < 18 + f.body.length then 2 else 0
theorem closeT_wrong (f : Fr) : closeT f = if wrongT f = 0 then (frameBytes f, 0) else ([], wrongT f) := by
  unfold closeT wrongT
  split
  · simp
  · split
    · simp
    · split
      · simp
      · split <;> simp
/-- a frame as a value -/
abbrev frV (d s p : Nat) (dr : Bool) (v t : Nat) (b : ByteArray) : Value := .agg #[.int .u64 (d : Int), .int .u64 (s : Int), .int .u8 (p : Int), .bool dr, .int .u16 (v : Int), .int .u16 (t : Int), .string b]
abbrev frT (d s p : Nat) (dr : Bool) (v t : Nat) (b : ByteArray) : Fr := ⟨d, s, p, dr, v, t, b.data.toList⟩

theorem drop_any (b : Bool) (n : Nat) (w : World) (h : (if b = true then 1 else 0) = n) :
    Calls Try.prog 15 #[.bool b] w fun e w' => e = .returned (.int .u64 (n : Int)) ∧ w = w' := by
  cases b
  · subst h
    go_enter Try.func15, Try.ntmps15
    go_wp2
    go_ret
    exact ⟨rfl, rfl⟩
  · subst h
    go_enter Try.func15, Try.ntmps15
    go_wp2
    go_ret
    exact ⟨rfl, rfl⟩

theorem w3 (f : Fr) (h : mayB f.dst = false ∨ mayB f.src = false ∨ groupB f.src = true) : wrongT f = 3 := by
  unfold wrongT badAddr
  rw [if_pos (by rcases h with h | h | h <;> simp [h])]
theorem w_addr (f : Fr) (h1 : mayB f.dst = true) (h2 : mayB f.src = true) (h3 : groupB f.src = false) : badAddr f = false := by
  unfold badAddr; simp [h1, h2, h3]
theorem w4 (f : Fr) (h : badAddr f = false) (h' : 7 < f.pri ∨ f.vlan = 0 ∨ 4094 < f.vlan) : wrongT f = 4 := by
  unfold wrongT
  rw [if_neg (by simp [h]), if_pos (by unfold badRange; rcases h' with h | h | h <;> simp [h])]
theorem w_range (f : Fr) (h1 : f.pri ≤ 7) (h2 : 1 ≤ f.vlan) (h3 : f.vlan ≤ 4094) : badRange f = false := by
  unfold badRange
  rw [Bool.or_eq_false_iff, Bool.or_eq_false_iff]
  exact ⟨decide_eq_false (by omega), decide_eq_false (by omega), decide_eq_false (by omega)⟩

set_option maxRecDepth 100000 in
set_option maxHeartbeats 1000000 in
theorem wrong_any (d s p v t : Nat) (dr : Bool) (b : ByteArray) (w : World) (hs : s < 18446744073709551616) (hb : b.size ≤ maxLen) :
    Calls Try.prog 13 #[frV d s p dr v t b] w fun e w' => e = .returned (.int .i64 (wrongT (frT d s p dr v t b) : Nat)) ∧ Below w.heap.size w w' := by
  unfold maxLen at hb
  obtain ⟨m1, hm1⟩ : ∃ m, mayB d = m := ⟨_, rfl⟩
  obtain ⟨m2, hm2⟩ : ∃ m, mayB s = m := ⟨_, rfl⟩
  obtain ⟨m3, hm3⟩ : ∃ m, groupB s = m := ⟨_, rfl⟩
  have H1 := Lib.hid hm1; clear hm1
  have H2 := Lib.hid hm2; clear hm2
  have H3 := Lib.hid hm3; clear hm3
  go_enter Try.func13, Try.ntmps13
  go_wp2_with fail
  have HB := Lib.hid ((Below.refl w.heap.size w).alloc (Nat.le_refl _) (.cells #[.int .u64 (d : Int), .int .u64 (s : Int), .int .u8 (p : Int), .bool dr, .int .u16 (v : Int), .int .u16 (t : Int), .string b] 26))
  refine (may_b m1 d _ H1.out).mono ?_
  rintro e w1 ⟨rfl, rfl⟩
  cases m1 with
  | false =>
    go_wp2
    go_ret
    exact ⟨ret_int (by rw [w3 _ (.inl H1.out)]; rfl), HB.out⟩
  | true =>
    go_wp2_with fail
    refine (may_b m2 s _ H2.out).mono ?_
    rintro e w1 ⟨rfl, rfl⟩
    cases m2 with
    | false =>
      go_wp2
      go_ret
      exact ⟨ret_int (by rw [w3 _ (.inr (.inl H2.out))]; rfl), HB.out⟩
    | true =>
      go_wp2_with fail
      refine (group_b m3 s _ H3.out hs).mono ?_
      rintro e w1 ⟨rfl, rfl⟩
      cases m3 with
      | true =>
        go_wp2
        go_ret
        exact ⟨ret_int (by rw [w3 _ (.inr (.inr H3.out))]; rfl), HB.out⟩
      | false =>
        have HA := Lib.hid (w_addr (frT d s p dr v t b) H1.out H2.out H3.out)
        by_cases c1 : 7 < p
        · go_wp2
          go_ret
          exact ⟨ret_int (by rw [w4 _ HA.out (.inl c1)]; rfl), HB.out⟩
        by_cases c2 : v = 0
        · have HW := Lib.hid (w4 _ HA.out (.inr (.inl c2)))
          subst c2
          go_wp2
          go_ret
          exact ⟨ret_int (by rw [HW.out]; rfl), HB.out⟩
        by_cases c3 : 4094 < v
        · go_wp2
          go_ret
          exact ⟨ret_int (by rw [w4 _ HA.out (.inr (.inr c3))]; rfl), HB.out⟩
        have HR := Lib.hid (w_range (frT d s p dr v t b) (by show p ≤ 7; omega) (by show 1 ≤ v; omega) (by show v ≤ 4094; omega))
        by_cases c4 : t < 1536
        · go_wp2
          go_ret
          exact ⟨ret_int (by unfold wrongT; rw [if_neg (by rw [HA.out]; simp), if_neg (by rw [HR.out]; simp), if_pos c4]; rfl), HB.out⟩
        have hbl := size_list b
        have HL := Lib.hid hbl; clear hbl
        by_cases c5 : 1582 < b.size
        · go_wp2
          go_ret
          exact ⟨ret_int (by unfold wrongT; rw [if_neg (by rw [HA.out]; simp), if_neg (by rw [HR.out]; simp), if_neg c4, if_pos (by rw [HL.out]; omega)]; rfl), HB.out⟩
        · go_wp2
          go_ret
          exact ⟨ret_int (by unfold wrongT; rw [if_neg (by rw [HA.out]; simp), if_neg (by rw [HR.out]; simp), if_neg c4, if_neg (by rw [HL.out]; omega)]; rfl), HB.out⟩
end Go.Proofs.Ytomchhjemfldnaa.Tg
