/-
  Tables, the document's: before, find, Look.
-/
import Derived.Test.YtljkodfdiebfiaaFdbD
import Derived.Test.YtljkodfdiebfiaaFdbF
namespace Go.Proofs.Ytljkodfdiebfiaa.Fd
open Go.RowKit Go.Proofs.Ytljkodfdiebfiaa.Mm Go.Proofs.Ytljkodfdiebfiaa.Tg

abbrev rtC (room age : Int) (A : Option Addr) (n c : Nat) : Array Value := #[.int .i64 room, .int .i64 age, .slice A n c]
abbrev rtV (room age : Int) (A : Option Addr) (n c : Nat) : Value := .agg (rtC room age A n c)
abbrev rrV (v a : Int) (p s : Int) : Value := .agg #[.int .u16 v, .int .u64 a, .int .i64 p, .int .i64 s]

set_option maxRecDepth 100000 in
set_option maxHeartbeats 1000000 in
theorem before_l (v a p s v' a' p' s' : Int) (w : World) (h1 : decide (v < v') = true) :
    Calls Try.prog 25 #[rrV v a p s, rrV v' a' p' s'] w fun e w' => e = .returned (.bool true) ∧ Below w.heap.size w w' := by
  go_enter Try.func25, Try.ntmps25
  go_wp2
  go_ret
  exact ⟨rfl, below_two w _ _⟩
set_option maxRecDepth 100000 in
set_option maxHeartbeats 1000000 in
theorem before_e (v a p s v' a' p' s' : Int) (w : World) (h1 : decide (v < v') = false) (h2 : (v == v') = true) {c : Bool} (h3 : decide (a < a') = c) :
    Calls Try.prog 25 #[rrV v a p s, rrV v' a' p' s'] w fun e w' => e = .returned (.bool c) ∧ Below w.heap.size w w' := by
  go_enter Try.func25, Try.ntmps25
  go_wp2
  go_ret
  exact ⟨rfl, below_two w _ _⟩
set_option maxRecDepth 100000 in
set_option maxHeartbeats 1000000 in
theorem before_g (v a p s v' a' p' s' : Int) (w : World) (h1 : decide (v < v') = false) (h2 : (v == v') = false) :
    Calls Try.prog 25 #[rrV v a p s, rrV v' a' p' s'] w fun e w' => e = .returned (.bool false) ∧ Below w.heap.size w w' := by
  go_enter Try.func25, Try.ntmps25
  go_wp2
  go_ret
  exact ⟨rfl, below_two w _ _⟩
theorem before_any {x y : Fr} {r : Bool} (hr : decide (klt x y) = r) (w : World) :
    Calls Try.prog 25 #[rrV x.vlan x.addr x.port x.seen, rrV y.vlan y.addr y.port y.seen] w fun e w' => e = .returned (.bool r) ∧ Below w.heap.size w w' := by
  subst hr
  by_cases h1 : x.vlan < y.vlan
  · rw [decide_eq_true (show klt x y from .inl h1)]; exact before_l _ _ _ _ _ _ _ _ w (decide_eq_true (by omega))
  by_cases h2 : x.vlan = y.vlan
  · rw [show decide (klt x y) = decide ((x.addr : Int) < (y.addr : Int)) by rw [decide_eq_decide]; unfold klt; omega]
    exact before_e _ _ _ _ _ _ _ _ w (decide_eq_false (by omega)) (by simp [h2]) rfl
  · rw [decide_eq_false (show ¬ klt x y by unfold klt; omega)]
    exact before_g _ _ _ _ _ _ _ _ w (decide_eq_false (by omega)) (by simp only [beq_eq_false_iff_ne]; omega)
/-- the place of a row -/
def idx (l : List Fr) (v a : Nat) : Nat := l.findIdx (fun r => decide (r.vlan = v ∧ r.addr = a))
theorem idx_no {l : List Fr} {v a i : Nat} (h : i < idx l v a) (hi : i < l.length) : ¬ (l[i].vlan = v ∧ l[i].addr = a) := by
  have := List.not_of_lt_findIdx h
  simpa using this
theorem idx_yes {l : List Fr} {v a : Nat} (h : idx l v a < l.length) : l[idx l v a].vlan = v ∧ l[idx l v a].addr = a := by
  have := List.findIdx_getElem (w := h)
  simpa [idx] using this
theorem idx_find (l : List Fr) (v a : Nat) : l[idx l v a]? = findK l v a := by
  unfold idx findK
  induction l with
  | nil => rfl
  | cons x l ih =>
    rw [List.findIdx_cons, List.find?_cons]
    cases decide (x.vlan = v ∧ x.addr = a)
    · simpa using ih
    · rfl

set_option maxRecDepth 100000 in
set_option maxHeartbeats 2000000 in
theorem find_any {room age : Int} {A : Option Addr} {c n f : Nat} {v a : Nat} {l : List Fr} {w : World} (hA : Rd w w.heap.size A (rowCs l)) (hn : n = l.length) (hf : idx l v a = f) (hl : n ≤ 1024) :
    Calls Try.prog 24 #[rtV room age A n c, .int .u16 (v : Int), .int .u64 (a : Int)] w fun e w' => e = .returned (.int .i64 (if f < n then (f : Int) else -1)) ∧ Below w.heap.size w w' := by
  obtain ⟨R, hR⟩ : ∃ R : Int, R = if f < n then (f : Int) else -1 := ⟨_, rfl⟩
  rw [← hR]
  have hfl : f ≤ n := by rw [← hf, hn]; exact List.findIdx_le_length
  have HF := Lib.hid hf
  obtain ⟨V, hV⟩ : ∃ V : Int, V = (v : Int) := ⟨_, rfl⟩
  obtain ⟨D, hD⟩ : ∃ D : Int, D = (a : Int) := ⟨_, rfl⟩
  rw [← hV, ← hD]
  have HV := Lib.hid hV; have HD := Lib.hid hD; have HR := Lib.hid hR; have HN := Lib.hid hn
  clear hf hV hD hR hn
  have HA0 := Lib.hid hA
  clear hA
  go_enter Try.func24, Try.ntmps24
  go_upto_region 1 with (fail)
  have HB := Lib.hid ((Below.refl w.heap.size w).alloc (Nat.le_refl _) (.cells (rtC room age A n c) 34))
  have HT := Lib.hid (Blk.fresh w 34 (rtC room age A n c))
  have HA := Lib.hid (HA0.out.below HB.out)
  generalize w.alloc (.cells (rtC room age A n c) 34) = w0 at HB HT HA ⊢
  cases Rw3.row HT.out
  go_wp2_with fail
  go_loop [7] (fun i => ∃ k, k ≤ f ∧ i = .int .i64 (k : Nat)) (fun i => n - (intOf i).toNat)
  case atStart => exact ⟨0, Nat.zero_le _, rfl⟩
  case round =>
    obtain ⟨k, hk, rfl⟩ := hrel
    by_cases hlt : k < n
    · have hkl : k < l.length := by rw [← HN.out]; exact hlt
      obtain ⟨ad, rfl, hbl, c0, c1, c2, c3⟩ := rd_row HA.out (List.getElem?_eq_getElem hkl)
      obtain ⟨x, hx⟩ : ∃ x, x = l[k] := ⟨_, rfl⟩
      rw [← hx] at c0 c1 c2 c3
      obtain ⟨X, hX⟩ : ∃ X : Int, X = (x.vlan : Int) := ⟨_, rfl⟩
      obtain ⟨Y, hY⟩ : ∃ Y : Int, Y = (x.addr : Int) := ⟨_, rfl⟩
      rw [← hX] at c0
      rw [← hY] at c1
      clear c2 c3
      by_cases hkf : k < f
      · have hno := idx_no (l := l) (v := v) (a := a) (by rw [HF.out]; exact hkf) hkl
        rw [← hx] at hno
        have HX : Hid (x = l[k]) := Lib.hid hx
        clear hx
        by_cases e1 : X = V
        · have q1 : (X == V) = true := by simpa using e1
          have q2 : (Y == D) = false := by
            simp only [beq_eq_false_iff_ne]
            intro e2
            exact hno ⟨by have := HV.out; omega, by have := HD.out; omega⟩
          clear hno hX hY e1
          go_wp2
          go_round
          case rel => exact ⟨k + 1, by omega, by go_num⟩
          case measure => simp [intOf]; omega
        · have q1 : (X == V) = false := by simpa using e1
          clear hno hX hY e1
          go_wp2
          go_round
          case rel => exact ⟨k + 1, by omega, by go_num⟩
          case measure => simp [intOf]; omega
      · have ek : k = f := by omega
        have hyes := idx_yes (l := l) (v := v) (a := a) (by rw [HF.out, ← ek]; exact hkl)
        have hyes2 : l[k].vlan = v ∧ l[k].addr = a := by
          have e3 : idx l v a = k := by rw [HF.out, ek]
          simpa only [e3] using hyes
        rw [← hx] at hyes2
        have q1 : (X == V) = true := by have := HV.out; simp only [beq_iff_eq]; omega
        have q2 : (Y == D) = true := by have := HD.out; simp only [beq_iff_eq]; omega
        have hRk : R = (k : Int) := by rw [HR.out, ← ek, if_pos hlt]
        have HRK := Lib.hid hRk
        clear hyes hyes2 hx hX hY hRk ek
        go_wp2
        go_ret
        exact ⟨by rw [HRK.out]; rfl, HB.out⟩
    · have ek : f = n := by omega
      have hRk : R = -1 := by rw [HR.out, if_neg (by omega)]
      have HRK := Lib.hid hRk
      clear hRk ek
      go_wp2
      go_ret
      exact ⟨by rw [HRK.out]; rfl, HB.out⟩

set_option maxRecDepth 100000 in
set_option maxHeartbeats 2000000 in
theorem rlook_no {room age now : Int} {A : Option Addr} {c n f : Nat} {v a : Nat} {l : List Fr} {w : World} (hA : Rd w w.heap.size A (rowCs l)) (hn : n = l.length) (hf : idx l v a = f) (hl : n ≤ 1024) (hno : n ≤ f) :
    Calls Try.prog 10 #[rtV room age A n c, .int .i64 now, .int .u16 (v : Int), .int .u64 (a : Int)] w fun e w' => e = .returned (.tuple #[.int .i64 (-1), .bool false]) ∧ Below w.heap.size w w' := by
  have HA0 := Lib.hid hA; have HN := Lib.hid hn; have HF := Lib.hid hf
  clear hA hn hf
  go_enter Try.func10, Try.ntmps10
  go_upto_region 1 with (fail)
  have HB := Lib.hid ((Below.refl w.heap.size w).alloc (Nat.le_refl _) (.cells (rtC room age A n c) 34))
  have HT := Lib.hid (Blk.fresh w 34 (rtC room age A n c))
  have HA := Lib.hid ((HA0.out.below HB.out).more HB.out.size)
  generalize w.alloc (.cells (rtC room age A n c) 34) = w0 at HB HT HA ⊢
  cases Rw3.row HT.out
  go_wp2_with fail
  refine (find_any (room := room) (age := age) (c := c) HA.out HN.out HF.out hl).mono ?_
  rintro e w1 ⟨rfl, hb⟩
  rw [if_neg (by omega)]
  have HB1 := Lib.hid (HB.out.trans (hb.mono HB.out.size))
  have HT1 := Lib.hid (HT.out.below hb HT.out.lt)
  have HA1 := Lib.hid (HA.out.below hb)
  clear hb
  have d0 : decide ((-1 : Int) < 0) = true := rfl
  cases Rw3.row HT1.out
  go_upto_region 2 with (fail)
  go_quiet (fail)
  go_wp2
  go_ret2
  exact ⟨rfl, below_drewN HB1.out nq⟩
set_option maxRecDepth 100000 in
set_option maxHeartbeats 2000000 in
theorem rlook_old {room age now y : Int} {A : Option Addr} {c n f : Nat} {v a : Nat} {l : List Fr} {w : World} (hA : Rd w w.heap.size A (rowCs l)) (hn : n = l.length) (hf : idx l v a = f) (hl : n ≤ 1024) {xv xa : Nat} {P S : Int} (hx : l[f]? = some ⟨xv, xa, P, S⟩) (hy : IntKind.i64.wrap (now - S) = y) (ho : decide (age ≤ y) = true) :
    Calls Try.prog 10 #[rtV room age A n c, .int .i64 now, .int .u16 (v : Int), .int .u64 (a : Int)] w fun e w' => e = .returned (.tuple #[.int .i64 (-1), .bool false]) ∧ Below w.heap.size w w' := by
  have HA0 := Lib.hid hA; have HN := Lib.hid hn; have HF := Lib.hid hf
  clear hA hn hf
  go_enter Try.func10, Try.ntmps10
  go_upto_region 1 with (fail)
  have HB := Lib.hid ((Below.refl w.heap.size w).alloc (Nat.le_refl _) (.cells (rtC room age A n c) 34))
  have HT := Lib.hid (Blk.fresh w 34 (rtC room age A n c))
  have HA := Lib.hid ((HA0.out.below HB.out).more HB.out.size)
  generalize w.alloc (.cells (rtC room age A n c) 34) = w0 at HB HT HA ⊢
  cases Rw3.row HT.out
  go_wp2_with fail
  refine (find_any (room := room) (age := age) (c := c) HA.out HN.out HF.out hl).mono ?_
  rintro e w1 ⟨rfl, hb⟩
  rw [if_pos (by have := (List.getElem?_eq_some_iff.1 hx).1; rw [HN.out]; exact this)]
  have HB1 := Lib.hid (HB.out.trans (hb.mono HB.out.size))
  have HT1 := Lib.hid (HT.out.below hb HT.out.lt)
  have HA1 := Lib.hid (HA.out.below hb)
  clear hb
  obtain ⟨ad, rfl, hbl, c0, c1, c2, c3⟩ := rd_row HA1.out hx
  have hlt : f < n := by have := (List.getElem?_eq_some_iff.1 hx).1; rw [HN.out]; exact this
  have d0 : decide ((f : Int) < 0) = false := decide_eq_false (by omega)
  dsimp only at c2 c3
  clear c0 c1 hx hbl
  cases Rw3.row HT1.out
  go_upto_region 2 with (fail)
  go_quiet (fail)
  go_wp2
  go_ret2
  exact ⟨rfl, below_drewN HB1.out nq⟩
set_option maxRecDepth 100000 in
set_option maxHeartbeats 2000000 in
theorem rlook_new {room age now y : Int} {A : Option Addr} {c n f : Nat} {v a : Nat} {l : List Fr} {w : World} (hA : Rd w w.heap.size A (rowCs l)) (hn : n = l.length) (hf : idx l v a = f) (hl : n ≤ 1024) {xv xa : Nat} {P S : Int} (hx : l[f]? = some ⟨xv, xa, P, S⟩) (hy : IntKind.i64.wrap (now - S) = y) (ho : decide (age ≤ y) = false) :
    Calls Try.prog 10 #[rtV room age A n c, .int .i64 now, .int .u16 (v : Int), .int .u64 (a : Int)] w fun e w' => e = .returned (.tuple #[.int .i64 P, .bool true]) ∧ Below w.heap.size w w' := by
  have HA0 := Lib.hid hA; have HN := Lib.hid hn; have HF := Lib.hid hf
  clear hA hn hf
  go_enter Try.func10, Try.ntmps10
  go_upto_region 1 with (fail)
  have HB := Lib.hid ((Below.refl w.heap.size w).alloc (Nat.le_refl _) (.cells (rtC room age A n c) 34))
  have HT := Lib.hid (Blk.fresh w 34 (rtC room age A n c))
  have HA := Lib.hid ((HA0.out.below HB.out).more HB.out.size)
  generalize w.alloc (.cells (rtC room age A n c) 34) = w0 at HB HT HA ⊢
  cases Rw3.row HT.out
  go_wp2_with fail
  refine (find_any (room := room) (age := age) (c := c) HA.out HN.out HF.out hl).mono ?_
  rintro e w1 ⟨rfl, hb⟩
  rw [if_pos (by have := (List.getElem?_eq_some_iff.1 hx).1; rw [HN.out]; exact this)]
  have HB1 := Lib.hid (HB.out.trans (hb.mono HB.out.size))
  have HT1 := Lib.hid (HT.out.below hb HT.out.lt)
  have HA1 := Lib.hid (HA.out.below hb)
  clear hb
  obtain ⟨ad, rfl, hbl, c0, c1, c2, c3⟩ := rd_row HA1.out hx
  have hlt : f < n := by have := (List.getElem?_eq_some_iff.1 hx).1; rw [HN.out]; exact this
  have d0 : decide ((f : Int) < 0) = false := decide_eq_false (by omega)
  dsimp only at c2 c3
  clear c0 c1 hx hbl
  cases Rw3.row HT1.out
  go_upto_region 2 with (fail)
  go_quiet (fail)
  go_wp2
  go_ret2
  exact ⟨rfl, below_drewN HB1.out nq⟩
theorem rlook_any {room age now : Int} {A : Option Addr} {c n : Nat} {v a : Nat} {l : List Fr} {w : World} {q : Int} {k : Bool} (hA : Rd w w.heap.size A (rowCs l)) (hn : n = l.length) (hl : n ≤ 1024) (hs : ∀ x ∈ l, 0 ≤ x.seen ∧ x.seen ≤ 1099511627776) (hw : 0 ≤ now ∧ now ≤ 1099511627776) (hr : lookR l v a now age = (q, k)) :
    Calls Try.prog 10 #[rtV room age A n c, .int .i64 now, .int .u16 (v : Int), .int .u64 (a : Int)] w fun e w' => e = .returned (.tuple #[.int .i64 q, .bool k]) ∧ Below w.heap.size w w' := by
  unfold lookR at hr
  have hi := idx_find l v a
  cases ho : findK l v a with
  | none =>
    rw [ho] at hr hi
    simp only [Prod.mk.injEq] at hr
    rw [← hr.1, ← hr.2]
    exact rlook_no hA hn rfl hl (by rw [hn]; exact List.getElem?_eq_none_iff.1 hi)
  | some x =>
    rw [ho] at hr hi
    obtain ⟨xv, xa, P, S⟩ := x
    have hx : Fr.mk xv xa P S ∈ l := List.mem_of_find?_eq_some ho
    have h1 := hs _ hx
    dsimp only at h1 hr
    have hy : IntKind.i64.wrap (now - S) = now - S := by rw [IntKind.wrap_i64]; omega
    by_cases hd : now - S < age
    · simp only [hd, if_true, Prod.mk.injEq] at hr
      rw [← hr.1, ← hr.2]
      exact rlook_new hA hn rfl hl hi hy (decide_eq_false (by omega))
    · simp only [hd, if_false, Prod.mk.injEq] at hr
      rw [← hr.1, ← hr.2]
      exact rlook_old hA hn rfl hl hi hy (decide_eq_true (by omega))
end Go.Proofs.Ytljkodfdiebfiaa.Fd
