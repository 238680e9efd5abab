/-
  Tables: rows as cells; the library's Compare and Or at the program's types; rows held against each other; the sort.
-/
import Derived.Test.YtljkodfdiebfiaaFdbC
import Derived.Test.YtljkodfdiebfiaaShelfP
import Derived.Test.YtljkodfdiebfiaaRgK
namespace Go.Proofs.Ytljkodfdiebfiaa.Fd
open Go.RowKit Go.Maps Go.Sort Go.Proofs.Ytljkodfdiebfiaa.Mm Go.Proofs.Ytljkodfdiebfiaa.Tg

/-- a row's cells -/
def e4 (x : Fr) : List Value := [.int .u16 (x.vlan : Int), .int .u64 (x.addr : Int), .int .i64 x.port, .int .i64 x.seen]
/-- rows' cells -/
def rowCs (l : List Fr) : List Value := l.flatMap e4
theorem e4_len (x : Fr) : (e4 x).length = 4 := rfl
theorem e4_one (x : Fr) (v : Value) (h : v ∈ e4 x) : v.oneCell' = true := by
  simp only [e4, List.mem_cons, List.not_mem_nil, or_false] at h
  rcases h with rfl | rfl | rfl | rfl <;> rfl
theorem rowCs_len (l : List Fr) : (rowCs l).length = l.length * 4 := by
  unfold rowCs
  induction l with
  | nil => rfl
  | cons x l ih => rw [List.flatMap_cons, List.length_append, ih, e4_len, List.length_cons]; omega
theorem rowCs_app (l m : List Fr) : rowCs (l ++ m) = rowCs l ++ rowCs m := List.flatMap_append
theorem rowCs_one (x : Fr) : rowCs [x] = e4 x := by simp [rowCs]
theorem rowCs_at : ∀ (l : List Fr) (i c : Nat) (x : Fr), l[i]? = some x → c < 4 → (rowCs l)[i * 4 + c]? = (e4 x)[c]?
  | [], i, _, _, h, _ => by simp at h
  | y :: l, 0, c, x, h, hc => by
    have e : y = x := by simpa using h
    subst e
    unfold rowCs
    rw [List.flatMap_cons, Nat.zero_mul, Nat.zero_add, List.getElem?_append_left (by rw [e4_len]; exact hc)]
  | y :: l, i + 1, c, x, h, hc => by
    have ih := rowCs_at l i c x (by simpa using h) hc
    unfold rowCs at ih ⊢
    rw [List.flatMap_cons, List.getElem?_append_right (by rw [e4_len]; omega), e4_len, show (i + 1) * 4 + c - 4 = i * 4 + c by omega]
    exact ih
/-- a row out of a slice of rows -/
theorem rd_row {w : World} {B : Nat} {A : Option Addr} {l : List Fr} (h : Rd w B A (rowCs l)) {i : Nat} {x : Fr} (hi : l[i]? = some x) :
    ∃ ad : Addr, A = some ad ∧ ad.block < B ∧ w.cell? (ad.add (i * 4)) = some (.int .u16 (x.vlan : Int)) ∧ w.cell? ⟨(ad.add (i * 4)).block, (ad.add (i * 4)).off + 1, none⟩ = some (.int .u64 (x.addr : Int)) ∧
      w.cell? ⟨(ad.add (i * 4)).block, (ad.add (i * 4)).off + 2, none⟩ = some (.int .i64 x.port) ∧ w.cell? ⟨(ad.add (i * 4)).block, (ad.add (i * 4)).off + 3, none⟩ = some (.int .i64 x.seen) := by
  have hl : i < l.length := (List.getElem?_eq_some_iff.1 hi).1
  obtain ⟨ad, e1, e2, e3⟩ := h (by rw [rowCs_len]; omega)
  have f (c : Nat) (hc : c < 4) (u : Value) (hu : (e4 x)[c]? = some u) : w.cell? (ad.add (i * 4 + c)) = some u := e3 _ _ (by rw [rowCs_at l i c x hi hc]; exact hu)
  have a2 : ad.add (i * 4 + 2) = ⟨(ad.add (i * 4)).block, (ad.add (i * 4)).off + 2, none⟩ := by rw [← add_add]; rfl
  have a3 : ad.add (i * 4 + 3) = ⟨(ad.add (i * 4)).block, (ad.add (i * 4)).off + 3, none⟩ := by rw [← add_add]; rfl
  refine ⟨ad, e1, e2, f 0 (by omega) _ rfl, ?_, ?_, ?_⟩
  · rw [← add_succ]; exact f 1 (by omega) _ rfl
  · rw [← a2]; exact f 2 (by omega) _ rfl
  · rw [← a3]; exact f 3 (by omega) _ rfl

/-! ### the library's Compare and Or -/
/-- what Compare answers -/
def cmpN (x y : Nat) : Int := if x < y then -1 else if y < x then 1 else 0
def cmpR (x y : Fr) : Int := if cmpN x.vlan y.vlan = 0 then cmpN x.addr y.addr else cmpN x.vlan y.vlan

set_option maxRecDepth 100000 in
set_option maxHeartbeats 1000000 in
theorem nan_16 (x : Int) (w : World) : Calls Try.prog 53 #[.int .u16 x] w fun e w' => e = .returned (.bool false) ∧ w = w' := by
  have hx : (x != x) = false := by simp
  go_enter Try.func53, Try.ntmps53
  go_wp2
  go_ret
  exact ⟨rfl, rfl⟩
set_option maxRecDepth 100000 in
set_option maxHeartbeats 1000000 in
theorem cmp_16l (x y : Int) (w : World) (h1 : decide (x < y) = true) : Calls Try.prog 37 #[.int .u16 x, .int .u16 y] w fun e w' => e = .returned (.int .i64 (-1)) ∧ w = w' := by
  go_enter Try.func37, Try.ntmps37
  go_wp2_with fail
  refine (nan_16 x _).mono ?_
  rintro e w1 ⟨rfl, rfl⟩
  go_wp2_with fail
  refine (nan_16 y _).mono ?_
  rintro e w1 ⟨rfl, rfl⟩
  go_wp2
  go_ret
  exact ⟨rfl, rfl⟩
set_option maxRecDepth 100000 in
set_option maxHeartbeats 1000000 in
theorem cmp_16g (x y : Int) (w : World) (h1 : decide (x < y) = false) (h2 : decide (y < x) = true) : Calls Try.prog 37 #[.int .u16 x, .int .u16 y] w fun e w' => e = .returned (.int .i64 (1)) ∧ w = w' := by
  go_enter Try.func37, Try.ntmps37
  go_wp2_with fail
  refine (nan_16 x _).mono ?_
  rintro e w1 ⟨rfl, rfl⟩
  go_wp2_with fail
  refine (nan_16 y _).mono ?_
  rintro e w1 ⟨rfl, rfl⟩
  go_wp2
  go_ret
  exact ⟨rfl, rfl⟩
set_option maxRecDepth 100000 in
set_option maxHeartbeats 1000000 in
theorem cmp_16e (x y : Int) (w : World) (h1 : decide (x < y) = false) (h2 : decide (y < x) = false) : Calls Try.prog 37 #[.int .u16 x, .int .u16 y] w fun e w' => e = .returned (.int .i64 (0)) ∧ w = w' := by
  go_enter Try.func37, Try.ntmps37
  go_wp2_with fail
  refine (nan_16 x _).mono ?_
  rintro e w1 ⟨rfl, rfl⟩
  go_wp2_with fail
  refine (nan_16 y _).mono ?_
  rintro e w1 ⟨rfl, rfl⟩
  go_wp2
  go_ret
  exact ⟨rfl, rfl⟩
theorem cmp_16 {x y : Nat} {r : Int} (hr : cmpN x y = r) (w : World) : Calls Try.prog 37 #[.int .u16 (x : Int), .int .u16 (y : Int)] w fun e w' => e = .returned (.int .i64 r) ∧ w = w' := by
  subst hr
  unfold cmpN
  by_cases h1 : x < y
  · rw [if_pos h1]; exact cmp_16l x y w (decide_eq_true (by omega))
  · rw [if_neg h1]
    by_cases h2 : y < x
    · rw [if_pos h2]; exact cmp_16g x y w (decide_eq_false (by omega)) (decide_eq_true (by omega))
    · rw [if_neg h2]; exact cmp_16e x y w (decide_eq_false (by omega)) (decide_eq_false (by omega))
set_option maxRecDepth 100000 in
set_option maxHeartbeats 1000000 in
theorem nan_64 (x : Int) (w : World) : Calls Try.prog 54 #[.int .u64 x] w fun e w' => e = .returned (.bool false) ∧ w = w' := by
  have hx : (x != x) = false := by simp
  go_enter Try.func54, Try.ntmps54
  go_wp2
  go_ret
  exact ⟨rfl, rfl⟩
set_option maxRecDepth 100000 in
set_option maxHeartbeats 1000000 in
theorem cmp_64l (x y : Int) (w : World) (h1 : decide (x < y) = true) : Calls Try.prog 38 #[.int .u64 x, .int .u64 y] w fun e w' => e = .returned (.int .i64 (-1)) ∧ w = w' := by
  go_enter Try.func38, Try.ntmps38
  go_wp2_with fail
  refine (nan_64 x _).mono ?_
  rintro e w1 ⟨rfl, rfl⟩
  go_wp2_with fail
  refine (nan_64 y _).mono ?_
  rintro e w1 ⟨rfl, rfl⟩
  go_wp2
  go_ret
  exact ⟨rfl, rfl⟩
set_option maxRecDepth 100000 in
set_option maxHeartbeats 1000000 in
theorem cmp_64g (x y : Int) (w : World) (h1 : decide (x < y) = false) (h2 : decide (y < x) = true) : Calls Try.prog 38 #[.int .u64 x, .int .u64 y] w fun e w' => e = .returned (.int .i64 (1)) ∧ w = w' := by
  go_enter Try.func38, Try.ntmps38
  go_wp2_with fail
  refine (nan_64 x _).mono ?_
  rintro e w1 ⟨rfl, rfl⟩
  go_wp2_with fail
  refine (nan_64 y _).mono ?_
  rintro e w1 ⟨rfl, rfl⟩
  go_wp2
  go_ret
  exact ⟨rfl, rfl⟩
set_option maxRecDepth 100000 in
set_option maxHeartbeats 1000000 in
theorem cmp_64e (x y : Int) (w : World) (h1 : decide (x < y) = false) (h2 : decide (y < x) = false) : Calls Try.prog 38 #[.int .u64 x, .int .u64 y] w fun e w' => e = .returned (.int .i64 (0)) ∧ w = w' := by
  go_enter Try.func38, Try.ntmps38
  go_wp2_with fail
  refine (nan_64 x _).mono ?_
  rintro e w1 ⟨rfl, rfl⟩
  go_wp2_with fail
  refine (nan_64 y _).mono ?_
  rintro e w1 ⟨rfl, rfl⟩
  go_wp2
  go_ret
  exact ⟨rfl, rfl⟩
theorem cmp_64 {x y : Nat} {r : Int} (hr : cmpN x y = r) (w : World) : Calls Try.prog 38 #[.int .u64 (x : Int), .int .u64 (y : Int)] w fun e w' => e = .returned (.int .i64 r) ∧ w = w' := by
  subst hr
  unfold cmpN
  by_cases h1 : x < y
  · rw [if_pos h1]; exact cmp_64l x y w (decide_eq_true (by omega))
  · rw [if_neg h1]
    by_cases h2 : y < x
    · rw [if_pos h2]; exact cmp_64g x y w (decide_eq_false (by omega)) (decide_eq_true (by omega))
    · rw [if_neg h2]; exact cmp_64e x y w (decide_eq_false (by omega)) (decide_eq_false (by omega))
set_option maxRecDepth 100000 in
set_option maxHeartbeats 1000000 in
theorem or_a {x y : Int} {g : Nat} {w : World} (hb : Blk w g 3 #[.int .i64 x, .int .i64 y]) (h1 : (x != 0) = true) :
    Calls Try.prog 36 #[.slice (some ⟨g, 0, none⟩) 2 2] w fun e w' => e = .returned (.int .i64 x) ∧ w = w' := by
  cases Rw2.row hb
  clear hb
  go_enter Try.func36, Try.ntmps36
  go_wp2
  refine wp_loop_rounds 1 ?_
  rw [rounds_succ]
  go_wp2
  go_ret
  exact ⟨rfl, rfl⟩
set_option maxRecDepth 100000 in
set_option maxHeartbeats 1000000 in
theorem or_b {x y : Int} {g : Nat} {w : World} (hb : Blk w g 3 #[.int .i64 x, .int .i64 y]) (h1 : (x != 0) = false) (h2 : (y != 0) = true) :
    Calls Try.prog 36 #[.slice (some ⟨g, 0, none⟩) 2 2] w fun e w' => e = .returned (.int .i64 y) ∧ w = w' := by
  cases Rw2.row hb
  clear hb
  go_enter Try.func36, Try.ntmps36
  go_wp2
  refine wp_loop_rounds 2 ?_
  rw [rounds_succ]
  go_wp2
  rw [rounds_succ]
  go_wp2
  go_ret
  exact ⟨rfl, rfl⟩
set_option maxRecDepth 100000 in
set_option maxHeartbeats 1000000 in
theorem or_c {x y : Int} {g : Nat} {w : World} (hb : Blk w g 3 #[.int .i64 x, .int .i64 y]) (h1 : (x != 0) = false) (h2 : (y != 0) = false) :
    Calls Try.prog 36 #[.slice (some ⟨g, 0, none⟩) 2 2] w fun e w' => e = .returned (.int .i64 0) ∧ w = w' := by
  cases Rw2.row hb
  clear hb
  go_enter Try.func36, Try.ntmps36
  go_wp2
  refine wp_loop_rounds 3 ?_
  rw [rounds_succ]
  go_wp2
  rw [rounds_succ]
  go_wp2
  rw [rounds_succ]
  go_wp2
  go_ret
  exact ⟨rfl, rfl⟩
theorem or_any {x y r : Int} {g : Nat} {w : World} (hb : Blk w g 3 #[.int .i64 x, .int .i64 y]) (hr : (if x = 0 then y else x) = r) :
    Calls Try.prog 36 #[.slice (some ⟨g, 0, none⟩) 2 2] w fun e w' => e = .returned (.int .i64 r) ∧ w = w' := by
  subst hr
  by_cases h1 : x = 0
  · rw [if_pos h1]
    by_cases h2 : y = 0
    · rw [h2] at hb ⊢; exact or_c hb (by simp [h1]) (by simp)
    · exact or_b hb (by simp [h1]) (by simpa using h2)
  · rw [if_neg h1]; exact or_a hb (by simpa using h1)

end Go.Proofs.Ytljkodfdiebfiaa.Fd
