/-
  Wires: each call by what it answers, for both sides; the document's example.
-/
import Derived.Test.YtaolhjmmgippmaaWrC
namespace Go.Proofs.Ytaolhjmmgippmaa.Wr
open Go.RowKit Go.Proofs.Ytaolhjmmgippmaa.Mm Go.Proofs.Ytaolhjmmgippmaa.Tg
set_option linter.unusedVariables false
set_option linter.unusedSimpArgs false

def pushR (r : Int) (u : Bool) (L : List ByteArray) (s : ByteArray) : List ByteArray × Bool := if u = true ∧ ¬ r ≤ (L.length : Int) then (L ++ [s], true) else (L, false)
def popR : List ByteArray → List ByteArray × ByteArray × Bool
  | [] => ([], ByteArray.empty, false)
  | s :: l => (l, s, true)
def setR (v : Bool) (L : List ByteArray) : List ByteArray := if v = true then L else []
theorem pushR_len {r : Int} {u : Bool} {L L' : List ByteArray} {s : ByteArray} {ok : Bool} (h : pushR r u L s = (L', ok)) (hr : (L.length : Int) ≤ r) : (L'.length : Int) ≤ r := by
  unfold pushR at h
  by_cases hc : u = true ∧ ¬ r ≤ (L.length : Int)
  · rw [if_pos hc] at h
    obtain ⟨rfl, rfl⟩ := Prod.mk.inj h
    rw [List.length_append, List.length_singleton]
    omega
  · rw [if_neg hc] at h
    obtain ⟨rfl, rfl⟩ := Prod.mk.inj h
    exact hr
theorem pushR_down {r : Int} {u : Bool} {L L' : List ByteArray} {s : ByteArray} {ok : Bool} (h : pushR r u L s = (L', ok)) (hi : u = false → L = []) : u = false → L' = [] := by
  intro hu
  subst hu
  rw [show pushR r false L s = (L, false) from rfl] at h
  obtain ⟨rfl, rfl⟩ := Prod.mk.inj h
  exact hi rfl
theorem popR_len {L L' : List ByteArray} {s : ByteArray} {ok : Bool} (h : popR L = (L', s, ok)) : L'.length ≤ L.length ∧ L'.length = L.length - 1 := by
  cases L with
  | nil => obtain ⟨rfl, _⟩ := Prod.mk.inj h; simp
  | cons x l => obtain ⟨rfl, _⟩ := Prod.mk.inj h; simp
theorem popR_down {u : Bool} {L L' : List ByteArray} {s : ByteArray} {ok : Bool} (h : popR L = (L', s, ok)) (hi : u = false → L = []) : u = false → L' = [] := by
  intro hu
  rw [hi hu] at h
  obtain ⟨rfl, _⟩ := Prod.mk.inj h
  rfl

theorem push_any {L L' : List ByteArray} {ok : Bool} (r : Int) (u : Bool) (A : Option Addr) (n c : Nat) (s : ByteArray) (w : World) (h : pushR r u L s = (L', ok)) (hS : Sl w A n c L) (hn : n ≤ 1000000) :
    Calls Try.prog 8 #[wrV r u A n c, .string s] w fun x w' => ∃ A' n' c', x = .returned (.tuple #[wrV r u A' n' c', .bool ok]) ∧ Sl w' A' n' c' L' ∧ Below w.heap.size w w' := by
  have hl := hS.len
  unfold pushR at h
  rw [hl] at h
  cases u with
  | false =>
    rw [if_neg (by simp)] at h
    obtain ⟨rfl, rfl⟩ := Prod.mk.inj h
    refine (push_down r A n c s w).mono ?_
    rintro x w' ⟨rfl, hb⟩
    exact ⟨A, n, c, rfl, hS.below hb, hb⟩
  | true =>
    by_cases hr : r ≤ (n : Int)
    · rw [if_neg (by simp [hr])] at h
      obtain ⟨rfl, rfl⟩ := Prod.mk.inj h
      refine (push_full r A n c s w (decide_eq_true hr)).mono ?_
      rintro x w' ⟨rfl, hb⟩
      exact ⟨A, n, c, rfl, hS.below hb, hb⟩
    · rw [if_pos ⟨rfl, hr⟩] at h
      obtain ⟨rfl, rfl⟩ := Prod.mk.inj h
      refine (push_ok r A n c L s w hS hn (decide_eq_false hr)).mono ?_
      rintro x w' ⟨A', c', rfl, hS', hb⟩
      exact ⟨A', n + 1, c', rfl, hS', hb⟩
theorem rpush_any {L L' : List ByteArray} {ok : Bool} (r : Int) (u : Bool) (A : Option Addr) (n c : Nat) (s : ByteArray) (w : World) (h : pushR r u L s = (L', ok)) (hS : Sl w A n c L) (hn : n ≤ 1000000) :
    Calls Try.prog 9 #[wrV r (!u) A n c, .string s] w fun x w' => ∃ A' n' c', x = .returned (.tuple #[wrV r (!u) A' n' c', .bool ok]) ∧ Sl w' A' n' c' L' ∧ Below w.heap.size w w' := by
  have hl := hS.len
  unfold pushR at h
  rw [hl] at h
  cases u with
  | false =>
    rw [if_neg (by simp)] at h
    obtain ⟨rfl, rfl⟩ := Prod.mk.inj h
    refine (rpush_down r A n c s w).mono ?_
    rintro x w' ⟨rfl, hb⟩
    exact ⟨A, n, c, rfl, hS.below hb, hb⟩
  | true =>
    by_cases hr : r ≤ (n : Int)
    · rw [if_neg (by simp [hr])] at h
      obtain ⟨rfl, rfl⟩ := Prod.mk.inj h
      refine (rpush_full r A n c s w (decide_eq_true hr)).mono ?_
      rintro x w' ⟨rfl, hb⟩
      exact ⟨A, n, c, rfl, hS.below hb, hb⟩
    · rw [if_pos ⟨rfl, hr⟩] at h
      obtain ⟨rfl, rfl⟩ := Prod.mk.inj h
      refine (rpush_ok r A n c L s w hS hn (decide_eq_false hr)).mono ?_
      rintro x w' ⟨A', c', rfl, hS', hb⟩
      exact ⟨A', n + 1, c', rfl, hS', hb⟩
theorem pop_any {L L' : List ByteArray} {s : ByteArray} {ok : Bool} (r : Int) (u : Bool) (A : Option Addr) (n c : Nat) (w : World) (h : popR L = (L', s, ok)) (hS : Sl w A n c L) (hn : n ≤ 1000000) :
    Calls Try.prog 10 #[wrV r u A n c] w fun x w' => ∃ A' n' c', x = .returned (.tuple #[wrV r u A' n' c', .string s, .bool ok]) ∧ Sl w' A' n' c' L' ∧ Below w.heap.size w w' := by
  cases L with
  | nil =>
    obtain ⟨rfl, h2⟩ := Prod.mk.inj h
    obtain ⟨rfl, rfl⟩ := Prod.mk.inj h2
    have hl : 0 = n := hS.len
    subst hl
    refine (pop_none r u A c w).mono ?_
    rintro x w' ⟨rfl, hb⟩
    exact ⟨A, 0, c, rfl, hS.below hb, hb⟩
  | cons y l =>
    obtain ⟨rfl, h2⟩ := Prod.mk.inj h
    obtain ⟨rfl, rfl⟩ := Prod.mk.inj h2
    refine (pop_ok r u A n c _ _ w hS).mono ?_
    rintro x w' ⟨A', c', rfl, hS', hb⟩
    exact ⟨A', n - 1, c', rfl, hS', hb⟩
theorem rpop_any {L L' : List ByteArray} {s : ByteArray} {ok : Bool} (r : Int) (u : Bool) (A : Option Addr) (n c : Nat) (w : World) (h : popR L = (L', s, ok)) (hS : Sl w A n c L) (hn : n ≤ 1000000) :
    Calls Try.prog 11 #[wrV r u A n c] w fun x w' => ∃ A' n' c', x = .returned (.tuple #[wrV r u A' n' c', .string s, .bool ok]) ∧ Sl w' A' n' c' L' ∧ Below w.heap.size w w' := by
  cases L with
  | nil =>
    obtain ⟨rfl, h2⟩ := Prod.mk.inj h
    obtain ⟨rfl, rfl⟩ := Prod.mk.inj h2
    have hl : 0 = n := hS.len
    subst hl
    refine (rpop_none r u A c w).mono ?_
    rintro x w' ⟨rfl, hb⟩
    exact ⟨A, 0, c, rfl, hS.below hb, hb⟩
  | cons y l =>
    obtain ⟨rfl, h2⟩ := Prod.mk.inj h
    obtain ⟨rfl, rfl⟩ := Prod.mk.inj h2
    refine (rpop_ok r u A n c _ _ w hS hn).mono ?_
    rintro x w' ⟨A', c', rfl, hS', hb⟩
    exact ⟨A', n - 1, c', rfl, hS', hb⟩
theorem set_any {L : List ByteArray} (r : Int) (u v : Bool) (A : Option Addr) (n c : Nat) (w : World) (hI : u = false → L = []) (hS : Sl w A n c L) :
    Calls Try.prog 12 #[wrV r u A n c, .bool v] w fun x w' => ∃ A' n' c', x = .returned (wrV r v A' n' c') ∧ Sl w' A' n' c' (setR v L) ∧ Below w.heap.size w w' := by
  by_cases hv : v = u
  · subst hv
    have e : setR v L = L := by
      cases v with
      | false => rw [hI rfl]; rfl
      | true => rfl
    rw [e]
    refine (set_same r v A n c w).mono ?_
    rintro x w' ⟨rfl, hb⟩
    exact ⟨A, n, c, rfl, hS.below hb, hb⟩
  · have e : setR v L = [] := by
      cases v with
      | false => rfl
      | true => exact hI (by cases u with | false => rfl | true => exact absurd rfl hv)
    rw [e]
    refine (set_other r u v A n c w (by simpa using hv)).mono ?_
    rintro x w' ⟨rfl, hb⟩
    exact ⟨none, 0, 0, rfl, Sl.noneS w', hb⟩
theorem rset_any {L : List ByteArray} (r : Int) (u v : Bool) (A : Option Addr) (n c : Nat) (w : World) (hS : Sl w A n c L) :
    Calls Try.prog 13 #[wrV r (!u) A n c, .bool v] w fun x w' => ∃ A' n' c', x = .returned (wrV r (!v) A' n' c') ∧ Sl w' A' n' c' (setR v L) ∧ Below w.heap.size w w' := by
  cases v with
  | true =>
    refine (rset_up r (!u) A n c w).mono ?_
    rintro x w' ⟨rfl, hb⟩
    exact ⟨A, n, c, rfl, hS.below hb, hb⟩
  | false =>
    refine (rset_down r (!u) A n c w).mono ?_
    rintro x w' ⟨rfl, hb⟩
    exact ⟨none, 0, 0, rfl, Sl.noneS w', hb⟩
set_option maxRecDepth 100000 in
set_option maxHeartbeats 2000000 in
theorem awake21 (w : World) : Calls Try.prog 6 #[] w fun e w' => e = .returned (.bool true) ∧ Below w.heap.size w w' := by
  go_enter Try.func6, Try.ntmps6
  go_wp2_with fail
  refine (new_ok 2 w (by omega) (by omega)).mono ?_
  rintro x w1 ⟨rfl, hb⟩
  go_upto_region 2 with (fail)
  obtain ⟨w2, hw2, b2, l2⟩ : ∃ w2 : World, w2 = w1.alloc (.cells (wrC 2 true none 0 0) 25) ∧ Blk w2 w1.heap.size 25 (wrC 2 true none 0 0) ∧ Below w.heap.size w w2 := ⟨_, rfl, Blk.fresh _ _ _, hb.alloc hb.size _⟩
  rw [← hw2]
  have hwa : w.heap.size ≤ w1.heap.size := hb.size
  generalize w1.heap.size = a at b2 hwa ⊢
  have HA := Lib.hid b2
  have HB := Lib.hid l2
  clear hw2 b2 l2 hb
  cases Rw3.row HA.out
  go_wp2_with fail
  refine (push_any (L := []) (L' := [⟨#[97]⟩]) (ok := true) 2 true none 0 0 ⟨#[97]⟩ w2 (by simp [pushR]) (Sl.noneS w2) (by omega)).mono ?_
  rintro x w3 ⟨A1, n1, c1, rfl, hS1, hb⟩
  have HA3 := Lib.hid (HA.out.below hb HA.out.lt)
  have HB3 := Lib.hid (HB.out.trans (hb.mono HB.out.size))
  have HS3 := Lib.hid hS1
  clear hb HA HB hS1
  cases Rw3.row HA3.out
  go_upto_region 3 with (fail)
  obtain ⟨w4, hw, b, q, l⟩ : ∃ w4 : World, w4 = Rw3.set w3 a (.int .i64 2) (.bool true) (.slice A1 n1 c1) ∧ Blk w4 a 25 (wrC 2 true A1 n1 c1) ∧ Sl w4 A1 n1 c1 [⟨#[97]⟩] ∧ Below w.heap.size w w4 := ⟨_, rfl, Rw3.blk_set HA3.out _ _ _, HS3.out.set3 HA3.out _ _ _, Rw3.below_set HB3.out hwa _ _ _⟩
  dsimp only [Rw3.set] at hw
  rw [← hw]
  have HA := Lib.hid b
  have HB := Lib.hid l
  have HS := Lib.hid q
  clear hw b l q HA3 HB3 HS3
  cases Rw3.row HA.out
  go_wp2_with fail
  have hn1 : 1 = n1 := HS.out.len
  refine (push_any (L := [⟨#[97]⟩]) (L' := [⟨#[97]⟩, ⟨#[98]⟩]) (ok := true) 2 true A1 n1 c1 ⟨#[98]⟩ w4 (by simp [pushR]) HS.out (by omega)).mono ?_
  clear hn1
  rintro x w5 ⟨A2, n2, c2, rfl, hS1, hb⟩
  have HA3 := Lib.hid (HA.out.below hb HA.out.lt)
  have HB3 := Lib.hid (HB.out.trans (hb.mono HB.out.size))
  have HS3 := Lib.hid hS1
  clear hb HA HB hS1 HS
  cases Rw3.row HA3.out
  go_upto_region 4 with (fail)
  obtain ⟨w6, hw, b, q, l⟩ : ∃ w6 : World, w6 = Rw3.set w5 a (.int .i64 2) (.bool true) (.slice A2 n2 c2) ∧ Blk w6 a 25 (wrC 2 true A2 n2 c2) ∧ Sl w6 A2 n2 c2 [⟨#[97]⟩, ⟨#[98]⟩] ∧ Below w.heap.size w w6 := ⟨_, rfl, Rw3.blk_set HA3.out _ _ _, HS3.out.set3 HA3.out _ _ _, Rw3.below_set HB3.out hwa _ _ _⟩
  dsimp only [Rw3.set] at hw
  rw [← hw]
  have HA := Lib.hid b
  have HB := Lib.hid l
  have HS := Lib.hid q
  clear hw b l q HA3 HB3 HS3
  cases Rw3.row HA.out
  go_wp2_with fail
  have hn2 : 2 = n2 := HS.out.len
  refine (pop_any (L := [⟨#[97]⟩, ⟨#[98]⟩]) (L' := [⟨#[98]⟩]) (s := ⟨#[97]⟩) (ok := true) 2 true A2 n2 c2 w6 rfl HS.out (by omega)).mono ?_
  subst hn2
  rintro x w7 ⟨A3, n3, c3, rfl, hS1, hb⟩
  have HA3 := Lib.hid (HA.out.below hb HA.out.lt)
  have HB3 := Lib.hid (HB.out.trans (hb.mono HB.out.size))
  clear hb HA HB hS1 HS
  cases Rw3.row HA3.out
  go_upto_region 5 with (fail)
  obtain ⟨w8, hw, b, l⟩ : ∃ w8 : World, w8 = w7.alloc (.cells (wrC 2 true A3 n3 c3) 25) ∧ Blk w8 a 25 (wrC 2 true A2 2 c2) ∧ Below w.heap.size w w8 := ⟨_, rfl, HA3.out.alloc _, HB3.out.alloc HB3.out.size _⟩
  rw [← hw]
  have HA := Lib.hid b
  have HB := Lib.hid l
  clear hw b l HA3 HB3
  cases Rw3.row HA.out
  go_wp2_with fail
  refine (len_any 2 true A2 2 c2 w8).mono ?_
  rintro x w9 ⟨rfl, hb⟩
  have HA3 := Lib.hid (HA.out.below hb HA.out.lt)
  have HB3 := Lib.hid (HB.out.trans (hb.mono HB.out.size))
  clear hb HA HB
  cases Rw3.row HA3.out
  go_wp2_with fail
  refine (up_any 2 true A2 2 c2 w9).mono ?_
  rintro x w10 ⟨rfl, hb⟩
  have HB := Lib.hid (HB3.out.trans (hb.mono HB3.out.size))
  clear hb HA3 HB3
  go_wp2
  go_ret
  exact ⟨rfl, HB.out⟩
end Go.Proofs.Ytaolhjmmgippmaa.Wr
