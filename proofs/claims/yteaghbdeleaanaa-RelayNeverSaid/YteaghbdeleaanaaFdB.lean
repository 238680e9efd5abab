/-
  Tables, the program's: without, Sweep, Flush.
  Tables: rows as cells; the library's Compare and Or at the program's types; rows held against each other; the sort.
  Tables: rows held against each other; the sort of rows.
  Tables, the program's: Rows.
-/
import Derived.Test.YteaghbdeleaanaaFdA
import Derived.Test.YteaghbdeleaanaaShelfP
import Derived.Test.YteaghbdeleaanaaRgK
import Derived.Laws.MakeOwn
import Derived.Laws.OwnMore
import Derived.Sort.OwnSorted
namespace Go.Proofs.Yteaghbdeleaanaa.Fd
open Go.RowKit Go.Maps Go.Proofs.Yteaghbdeleaanaa.Mm Go.Proofs.Yteaghbdeleaanaa.Tg

abbrev mkK (q : Nat × Nat) : Value := keyV q.1 q.2
abbrev mkV (q : Int × Int) : Value := sgV q.1 q.2
theorem inv_k (key : Value) (k : Lit) (h : keyOf Try.prog 53 key = some k) : ∃ q, key = mkK q := by
  obtain ⟨q, h1, _⟩ := keyK_inv h
  exact ⟨q, h1⟩
theorem inv_v (v : Value) (y : DataW Unit × List MemPlace) (h : Rs v = some y) : ∃ q, v = mkV q := by
  obtain ⟨q, h1, _⟩ := rs_inv h
  exact ⟨q, h1⟩
theorem keyV_inj {v a v' a' : Nat} (h : keyV v a = keyV v' a') : v = v' ∧ a = a' := by
  simp only [keyV, Value.agg.injEq, Array.mk.injEq, List.cons.injEq, Value.int.injEq, and_true, true_and] at h
  exact ⟨by omega, by omega⟩
/-- an entry that a range meets is a row -/
theorem entry_row {l : List Fr} {q : Nat × Nat} {c : Int × Int} {k : Lit} {y : DataW Unit × List MemPlace} (hk : ∀ x ∈ l, okK x) (hkey : keyOf Try.prog 53 (mkK q) = some k) (hat : ∀ zd, (toD l).atKey k zd = y.1) (hv : Rs (mkV c) = some y) :
    Fr.mk q.1 q.2 c.1 c.2 ∈ l ∧ k = kl q.1 q.2 ∧ InK q.1 q.2 := by
  obtain ⟨q', e1, e2, e3⟩ := keyK_inv hkey
  obtain ⟨f1, f2⟩ := keyV_inj e1
  rw [← f1, ← f2] at e2 e3
  have hy : y = (sg c.1 c.2, []) := by
    obtain ⟨c', g1, g2⟩ := rs_inv hv
    have : c = c' := by
      simp only [mkV, sgV, Value.agg.injEq, Array.mk.injEq, List.cons.injEq, Value.int.injEq, and_true, true_and] at g1
      exact Prod.ext g1.1 g1.2
    rw [this]; exact g2
  subst hy
  refine ⟨?_, e3, e2⟩
  cases ho : findK l q.1 q.2 with
  | none =>
    have h1 := hat .nil
    rw [e3, toD_at e2 _ hk, ho] at h1
    simp [sg] at h1
  | some x =>
    have h1 := hat .nil
    rw [e3, toD_at e2 _ hk, ho] at h1
    obtain ⟨g1, g2⟩ := sg_inj h1
    have hx : x ∈ l := List.mem_of_find?_eq_some ho
    have hx2 := List.find?_some ho
    simp only [decide_eq_true_eq] at hx2
    obtain ⟨h3, h4⟩ := hx2
    cases x
    simp only at g1 g2 h3 h4
    subst g1 g2 h3 h4
    exact hx
/-- the rows that are not struck yet -/
def stay (goes : Int → Int → Bool) (left : Lit → Bool) (x : Fr) : Bool := !goes x.port x.seen || left (kl x.vlan x.addr)
section
variable {l : List Fr} (goes : Int → Int → Bool)
theorem stay_start (hk : ∀ x ∈ l, okK x) (hr : Rising l) : l.filter (stay goes (Maps.has (toD l))) = l := by
  rw [List.filter_eq_self]
  intro x hx
  unfold stay
  rw [toD_has (hk x hx) hk, (find_some hr).2 ⟨hx, rfl, rfl⟩]
  simp
theorem stay_end {left : Lit → Bool} (h : ∀ k, left k = false) : l.filter (stay goes left) = l.filter (fun x => !goes x.port x.seen) := List.filter_congr fun x _ => by unfold stay; rw [h]; simp
theorem stay_stays {left : Lit → Bool} (hk : ∀ x ∈ l, okK x) (hr : Rising l) {X : Fr} (hX : X ∈ l) (hg : goes X.port X.seen = false) : l.filter (stay goes (fun z => left z && !z.sameKey (kl X.vlan X.addr))) = l.filter (stay goes left) := List.filter_congr fun x hx => by
  unfold stay
  dsimp only
  rw [kl_same (hk x hx) (hk X hX)]
  by_cases e : x.vlan = X.vlan ∧ x.addr = X.addr
  · rw [one_row hr hx hX e, hg]; simp
  · simp [e]
theorem stay_goes {left : Lit → Bool} (hk : ∀ x ∈ l, okK x) (hr : Rising l) {X : Fr} (hX : X ∈ l) (hg : goes X.port X.seen = true) : (toD (l.filter (stay goes left))).del (kl X.vlan X.addr) = toD (l.filter (stay goes (fun z => left z && !z.sameKey (kl X.vlan X.addr)))) := by
  rw [toD_del (hk X hX) (fun x hx => hk x (List.mem_filter.1 hx).1), List.filter_filter]
  congr 1
  refine List.filter_congr fun x hx => ?_
  unfold stay
  dsimp only
  rw [kl_same (hk x hx) (hk X hX)]
  by_cases e : x.vlan = X.vlan ∧ x.addr = X.addr
  · rw [one_row hr hx hX e, hg]; simp
  · simp [e]
end

/-- without old rows -/
def sweepR (l : List Fr) (now age : Int) : List Fr := l.filter (fun x => decide (now - x.seen < age))
/-- without a port's rows -/
def flushR (l : List Fr) (port : Int) : List Fr := l.filter (fun x => decide (0 ≤ port) && (x.port != port))

end Go.Proofs.Yteaghbdeleaanaa.Fd
namespace Go.Proofs.Yteaghbdeleaanaa.Fd
open Go.RowKit Go.Maps Go.Sort Go.Proofs.Yteaghbdeleaanaa.Mm Go.Proofs.Yteaghbdeleaanaa.Tg

/-- a row's cells -/
def e4 (x : Fr) : List Value := [.int .u16 (x.vlan : Int), .int .u64 (x.addr : Int), .int .i64 x.port, .int .i64 x.seen]
/-- rows' cells -/
def rowCs (l : List Fr) : List Value := l.flatMap e4
theorem e4_len (x : Fr) : (e4 x).length = 4 := rfl
theorem e4_one (x : Fr) (v : Value) (h : v ∈ e4 x) : v.oneCell' = true := by
  simp only [e4, List.mem_cons, List.not_mem_nil, or_false] at h
  rcases h with rfl | rfl | rfl | rfl <;> rfl
theorem rowCs_len (l : List Fr) : (rowCs l).length = l.length * 4 := by
  unfold rowCs
  induction l with
  | nil => rfl
  | cons x l ih => rw [List.flatMap_cons, List.length_append, ih, e4_len, List.length_cons]; omega
theorem rowCs_app (l m : List Fr) : rowCs (l ++ m) = rowCs l ++ rowCs m := List.flatMap_append
theorem rowCs_one (x : Fr) : rowCs [x] = e4 x := by simp [rowCs]
theorem rowCs_at : ∀ (l : List Fr) (i c : Nat) (x : Fr), l[i]? = some x → c < 4 → (rowCs l)[i * 4 + c]? = (e4 x)[c]?
  | [], i, _, _, h, _ => by simp at h
  | y :: l, 0, c, x, h, hc => by
    have e : y = x := by simpa using h
    subst e
    unfold rowCs
    rw [List.flatMap_cons, Nat.zero_mul, Nat.zero_add, List.getElem?_append_left (by rw [e4_len]; exact hc)]
  | y :: l, i + 1, c, x, h, hc => by
    have ih := rowCs_at l i c x (by simpa using h) hc
    unfold rowCs at ih ⊢
    rw [List.flatMap_cons, List.getElem?_append_right (by rw [e4_len]; omega), e4_len, show (i + 1) * 4 + c - 4 = i * 4 + c by omega]
    exact ih
/-- a row out of a slice of rows -/
theorem rd_row {w : World} {B : Nat} {A : Option Addr} {l : List Fr} (h : Rd w B A (rowCs l)) {i : Nat} {x : Fr} (hi : l[i]? = some x) :
    ∃ ad : Addr, A = some ad ∧ ad.block < B ∧ w.cell? (ad.add (i * 4)) = some (.int .u16 (x.vlan : Int)) ∧ w.cell? ⟨(ad.add (i * 4)).block, (ad.add (i * 4)).off + 1, none⟩ = some (.int .u64 (x.addr : Int)) ∧
      w.cell? ⟨(ad.add (i * 4)).block, (ad.add (i * 4)).off + 2, none⟩ = some (.int .i64 x.port) ∧ w.cell? ⟨(ad.add (i * 4)).block, (ad.add (i * 4)).off + 3, none⟩ = some (.int .i64 x.seen) := by
  have hl : i < l.length := (List.getElem?_eq_some_iff.1 hi).1
  obtain ⟨ad, e1, e2, e3⟩ := h (by rw [rowCs_len]; omega)
  have f (c : Nat) (hc : c < 4) (u : Value) (hu : (e4 x)[c]? = some u) : w.cell? (ad.add (i * 4 + c)) = some u := e3 _ _ (by rw [rowCs_at l i c x hi hc]; exact hu)
  have a2 : ad.add (i * 4 + 2) = ⟨(ad.add (i * 4)).block, (ad.add (i * 4)).off + 2, none⟩ := by rw [← add_add]; rfl
  have a3 : ad.add (i * 4 + 3) = ⟨(ad.add (i * 4)).block, (ad.add (i * 4)).off + 3, none⟩ := by rw [← add_add]; rfl
  refine ⟨ad, e1, e2, f 0 (by omega) _ rfl, ?_, ?_, ?_⟩
  · rw [← add_succ]; exact f 1 (by omega) _ rfl
  · rw [← a2]; exact f 2 (by omega) _ rfl
  · rw [← a3]; exact f 3 (by omega) _ rfl

/-! ### the library's Compare and Or -/
/-- what Compare answers -/
def cmpN (x y : Nat) : Int := if x < y then -1 else if y < x then 1 else 0
def cmpR (x y : Fr) : Int := if cmpN x.vlan y.vlan = 0 then cmpN x.addr y.addr else cmpN x.vlan y.vlan

set_option maxRecDepth 100000 in
set_option maxHeartbeats 1000000 in
theorem nan_16 (x : Int) (w : World) : Calls Try.prog 55 #[.int .u16 x] w fun e w' => e = .returned (.bool false) ∧ w = w' := by
  have hx : (x != x) = false := by simp
  go_enter Try.func55, Try.ntmps55
  go_wp2
  go_ret
  exact ⟨rfl, rfl⟩
set_option maxRecDepth 100000 in
set_option maxHeartbeats 1000000 in
theorem cmp_16l (x y : Int) (w : World) (h1 : decide (x < y) = true) : Calls Try.prog 43 #[.int .u16 x, .int .u16 y] w fun e w' => e = .returned (.int .i64 (-1)) ∧ w = w' := by
  go_enter Try.func43, Try.ntmps43
  go_wp2_with fail
  refine (nan_16 x _).mono ?_
  rintro e w1 ⟨rfl, rfl⟩
  go_wp2_with fail
  refine (nan_16 y _).mono ?_
  rintro e w1 ⟨rfl, rfl⟩
  go_wp2
  go_ret
  exact ⟨rfl, rfl⟩
set_option maxRecDepth 100000 in
set_option maxHeartbeats 1000000 in
theorem cmp_16g (x y : Int) (w : World) (h1 : decide (x < y) = false) (h2 : decide (y < x) = true) : Calls Try.prog 43 #[.int .u16 x, .int .u16 y] w fun e w' => e = .returned (.int .i64 (1)) ∧ w = w' := by
  go_enter Try.func43, Try.ntmps43
  go_wp2_with fail
  refine (nan_16 x _).mono ?_
  rintro e w1 ⟨rfl, rfl⟩
  go_wp2_with fail
  refine (nan_16 y _).mono ?_
  rintro e w1 ⟨rfl, rfl⟩
  go_wp2
  go_ret
  exact ⟨rfl, rfl⟩
set_option maxRecDepth 100000 in
set_option maxHeartbeats 1000000 in
theorem cmp_16e (x y : Int) (w : World) (h1 : decide (x < y) = false) (h2 : decide (y < x) = false) : Calls Try.prog 43 #[.int .u16 x, .int .u16 y] w fun e w' => e = .returned (.int .i64 (0)) ∧ w = w' := by
  go_enter Try.func43, Try.ntmps43
  go_wp2_with fail
  refine (nan_16 x _).mono ?_
  rintro e w1 ⟨rfl, rfl⟩
  go_wp2_with fail
  refine (nan_16 y _).mono ?_
  rintro e w1 ⟨rfl, rfl⟩
  go_wp2
  go_ret
  exact ⟨rfl, rfl⟩
theorem cmp_16 {x y : Nat} {r : Int} (hr : cmpN x y = r) (w : World) : Calls Try.prog 43 #[.int .u16 (x : Int), .int .u16 (y : Int)] w fun e w' => e = .returned (.int .i64 r) ∧ w = w' := by
  subst hr
  unfold cmpN
  by_cases h1 : x < y
  · rw [if_pos h1]; exact cmp_16l x y w (decide_eq_true (by omega))
  · rw [if_neg h1]
    by_cases h2 : y < x
    · rw [if_pos h2]; exact cmp_16g x y w (decide_eq_false (by omega)) (decide_eq_true (by omega))
    · rw [if_neg h2]; exact cmp_16e x y w (decide_eq_false (by omega)) (decide_eq_false (by omega))
set_option maxRecDepth 100000 in
set_option maxHeartbeats 1000000 in
theorem nan_64 (x : Int) (w : World) : Calls Try.prog 56 #[.int .u64 x] w fun e w' => e = .returned (.bool false) ∧ w = w' := by
  have hx : (x != x) = false := by simp
  go_enter Try.func56, Try.ntmps56
  go_wp2
  go_ret
  exact ⟨rfl, rfl⟩
set_option maxRecDepth 100000 in
set_option maxHeartbeats 1000000 in
theorem cmp_64l (x y : Int) (w : World) (h1 : decide (x < y) = true) : Calls Try.prog 44 #[.int .u64 x, .int .u64 y] w fun e w' => e = .returned (.int .i64 (-1)) ∧ w = w' := by
  go_enter Try.func44, Try.ntmps44
  go_wp2_with fail
  refine (nan_64 x _).mono ?_
  rintro e w1 ⟨rfl, rfl⟩
  go_wp2_with fail
  refine (nan_64 y _).mono ?_
  rintro e w1 ⟨rfl, rfl⟩
  go_wp2
  go_ret
  exact ⟨rfl, rfl⟩
set_option maxRecDepth 100000 in
set_option maxHeartbeats 1000000 in
theorem cmp_64g (x y : Int) (w : World) (h1 : decide (x < y) = false) (h2 : decide (y < x) = true) : Calls Try.prog 44 #[.int .u64 x, .int .u64 y] w fun e w' => e = .returned (.int .i64 (1)) ∧ w = w' := by
  go_enter Try.func44, Try.ntmps44
  go_wp2_with fail
  refine (nan_64 x _).mono ?_
  rintro e w1 ⟨rfl, rfl⟩
  go_wp2_with fail
  refine (nan_64 y _).mono ?_
  rintro e w1 ⟨rfl, rfl⟩
  go_wp2
  go_ret
  exact ⟨rfl, rfl⟩
set_option maxRecDepth 100000 in
set_option maxHeartbeats 1000000 in
theorem cmp_64e (x y : Int) (w : World) (h1 : decide (x < y) = false) (h2 : decide (y < x) = false) : Calls Try.prog 44 #[.int .u64 x, .int .u64 y] w fun e w' => e = .returned (.int .i64 (0)) ∧ w = w' := by
  go_enter Try.func44, Try.ntmps44
  go_wp2_with fail
  refine (nan_64 x _).mono ?_
  rintro e w1 ⟨rfl, rfl⟩
  go_wp2_with fail
  refine (nan_64 y _).mono ?_
  rintro e w1 ⟨rfl, rfl⟩
  go_wp2
  go_ret
  exact ⟨rfl, rfl⟩
theorem cmp_64 {x y : Nat} {r : Int} (hr : cmpN x y = r) (w : World) : Calls Try.prog 44 #[.int .u64 (x : Int), .int .u64 (y : Int)] w fun e w' => e = .returned (.int .i64 r) ∧ w = w' := by
  subst hr
  unfold cmpN
  by_cases h1 : x < y
  · rw [if_pos h1]; exact cmp_64l x y w (decide_eq_true (by omega))
  · rw [if_neg h1]
    by_cases h2 : y < x
    · rw [if_pos h2]; exact cmp_64g x y w (decide_eq_false (by omega)) (decide_eq_true (by omega))
    · rw [if_neg h2]; exact cmp_64e x y w (decide_eq_false (by omega)) (decide_eq_false (by omega))
set_option maxRecDepth 100000 in
set_option maxHeartbeats 1000000 in
theorem or_a {x y : Int} {g : Nat} {w : World} (hb : Blk w g 3 #[.int .i64 x, .int .i64 y]) (h1 : (x != 0) = true) :
    Calls Try.prog 42 #[.slice (some ⟨g, 0, none⟩) 2 2] w fun e w' => e = .returned (.int .i64 x) ∧ w = w' := by
  cases Rw2.row hb
  clear hb
  go_enter Try.func42, Try.ntmps42
  go_wp2
  refine wp_loop_rounds 1 ?_
  rw [rounds_succ]
  go_wp2
  go_ret
  exact ⟨rfl, rfl⟩
set_option maxRecDepth 100000 in
set_option maxHeartbeats 1000000 in
theorem or_b {x y : Int} {g : Nat} {w : World} (hb : Blk w g 3 #[.int .i64 x, .int .i64 y]) (h1 : (x != 0) = false) (h2 : (y != 0) = true) :
    Calls Try.prog 42 #[.slice (some ⟨g, 0, none⟩) 2 2] w fun e w' => e = .returned (.int .i64 y) ∧ w = w' := by
  cases Rw2.row hb
  clear hb
  go_enter Try.func42, Try.ntmps42
  go_wp2
  refine wp_loop_rounds 2 ?_
  rw [rounds_succ]
  go_wp2
  rw [rounds_succ]
  go_wp2
  go_ret
  exact ⟨rfl, rfl⟩
set_option maxRecDepth 100000 in
set_option maxHeartbeats 1000000 in
theorem or_c {x y : Int} {g : Nat} {w : World} (hb : Blk w g 3 #[.int .i64 x, .int .i64 y]) (h1 : (x != 0) = false) (h2 : (y != 0) = false) :
    Calls Try.prog 42 #[.slice (some ⟨g, 0, none⟩) 2 2] w fun e w' => e = .returned (.int .i64 0) ∧ w = w' := by
  cases Rw2.row hb
  clear hb
  go_enter Try.func42, Try.ntmps42
  go_wp2
  refine wp_loop_rounds 3 ?_
  rw [rounds_succ]
  go_wp2
  rw [rounds_succ]
  go_wp2
  rw [rounds_succ]
  go_wp2
  go_ret
  exact ⟨rfl, rfl⟩
theorem or_any {x y r : Int} {g : Nat} {w : World} (hb : Blk w g 3 #[.int .i64 x, .int .i64 y]) (hr : (if x = 0 then y else x) = r) :
    Calls Try.prog 42 #[.slice (some ⟨g, 0, none⟩) 2 2] w fun e w' => e = .returned (.int .i64 r) ∧ w = w' := by
  subst hr
  by_cases h1 : x = 0
  · rw [if_pos h1]
    by_cases h2 : y = 0
    · rw [h2] at hb ⊢; exact or_c hb (by simp [h1]) (by simp)
    · exact or_b hb (by simp [h1]) (by simpa using h2)
  · rw [if_neg h1]; exact or_a hb (by simpa using h1)

end Go.Proofs.Yteaghbdeleaanaa.Fd
namespace Go.Proofs.Yteaghbdeleaanaa.Fd
open Go.RowKit Go.Maps Go.Sort Go.Proofs.Yteaghbdeleaanaa.Mm Go.Proofs.Yteaghbdeleaanaa.Tg

set_option linter.unusedSimpArgs false

/-- of w, there are draws and new blocks, nothing else -/
def Gq (w w' : World) : Prop := ∃ q os, w' = grow (w.drewN q) os
theorem Gq.refl (w : World) : Gq w w := ⟨0, #[], by rw [grow_empty]; rfl⟩
theorem Gq.drew {w w' : World} (h : Gq w w') : Gq w w'.drew := by
  obtain ⟨q, os, rfl⟩ := h
  exact ⟨q + 1, os, rfl⟩
theorem Gq.alloc {w w' : World} (h : Gq w w') (o : Obj) : Gq w (w'.alloc o) := by
  obtain ⟨q, os, rfl⟩ := h
  exact ⟨q, os ++ #[o], by rw [alloc_eq_grow, grow_grow]⟩
theorem st_more {P : Program} {ops : Array Oper} {Q : Exit → Act → World → Prop} {md : Region.Mode} {S : World → Prop} {fuel : Nat} {listed : Array Bool} {a : Act} {w : World} {K : Act → World → Prop} {cs : Array Value} {t : TypeId}
    (hK : Shut (∀ a w, S w → (S w → wpAnyH P md ops Q S fuel listed a w) → K a w)) (hS : S (w.alloc (.cells cs t)))
    (h : ∀ w', (S w' ∧ Blk w' w.heap.size t cs) → wpAnyH P md ops Q (fun wx => S wx ∧ Blk wx w.heap.size t cs) fuel listed a w') : K a (w.alloc (.cells cs t)) :=
  hK.out _ _ hS (fun hS' => Rg.more (fun _ h => h.1) _ _ _ _ (h _ ⟨hS', Blk.fresh _ _ _⟩))
theorem keep_s {w wx : World} {g k : Nat} {t : TypeId} {a b : Array Value} (h : Blk wx g t a ∧ Blk wx k t b ∧ Gq w wx) (o : Obj) : Blk (wx.alloc o) g t a ∧ Blk (wx.alloc o) k t b ∧ Gq w (wx.alloc o) := ⟨h.1.alloc o, h.2.1.alloc o, h.2.2.alloc o⟩

set_option maxRecDepth 100000 in
set_option maxHeartbeats 2000000 in
theorem by_at (v a v' a' : Nat) (p s p' s' c1 c2 c3 : Int) (w : World) (h1 : cmpN v v' = c1) (h2 : cmpN a a' = c2) (h3 : (if c1 = 0 then c2 else c1) = c3) :
    Calls Try.prog 34 #[.agg #[.int .u16 (v : Int), .int .u64 (a : Int), .int .i64 p, .int .i64 s], .agg #[.int .u16 (v' : Int), .int .u64 (a' : Int), .int .i64 p', .int .i64 s']] w fun e w' => e = .returned (.int .i64 c3) ∧ Gq w w' := by
  have HC1 := Lib.hid h1; have HC2 := Lib.hid h2; have HC3 := Lib.hid h3
  clear h1 h2 h3
  go_enter Try.func34, Try.ntmps34
  go_upto_region 1 with (fail)
  have HX := Lib.hid ((Blk.fresh w 75 #[.int .u16 (v : Int), .int .u64 (a : Int), .int .i64 p, .int .i64 s]).alloc (.cells #[.int .u16 (v' : Int), .int .u64 (a' : Int), .int .i64 p', .int .i64 s'] 75))
  have HY := Lib.hid (fresh_second w (.cells #[.int .u16 (v : Int), .int .u64 (a : Int), .int .i64 p, .int .i64 s] 75) 75 #[.int .u16 (v' : Int), .int .u64 (a' : Int), .int .i64 p', .int .i64 s'])
  have HQ := Lib.hid (((Gq.refl w).alloc (.cells #[.int .u16 (v : Int), .int .u64 (a : Int), .int .i64 p, .int .i64 s] 75)).alloc (.cells #[.int .u16 (v' : Int), .int .u64 (a' : Int), .int .i64 p', .int .i64 s'] 75))
  generalize (w.alloc (.cells #[.int .u16 (v : Int), .int .u64 (a : Int), .int .i64 p, .int .i64 s] 75)).alloc (.cells #[.int .u16 (v' : Int), .int .u64 (a' : Int), .int .i64 p', .int .i64 s'] 75) = w0 at HX HY HQ ⊢
  refine wp_region_held_drew (S := fun wx => Blk wx w.heap.size 75 #[.int .u16 (v : Int), .int .u64 (a : Int), .int .i64 p, .int .i64 s] ∧ Blk wx (w.heap.size + 1) 75 #[.int .u16 (v' : Int), .int .u64 (a' : Int), .int .i64 p', .int .i64 s'] ∧ Gq w wx) (by kernel_rfl) ⟨HX.out.drew, HY.out.drew, HQ.out.drew⟩ (fun hHeld => ?_)
  generalize w0.drew = wd at hHeld ⊢
  refine Rg.tk 0 (v := ?_) ?_ ?_
  rotate_left
  · (intro wx hSx; go_simp; all_goals with_reducible rfl)
  simp only [Act.put, Rg.e1, Rg.e2, Rg.e3, Rg.e4, Rg.e5, Rg.e6]
  refine Rg.tk 1 (v := ?_) ?_ ?_
  rotate_left
  · intro wx hSx
    cases Rw4.row hSx.1; cases Rw4.row hSx.2.1; go_simp
    all_goals with_reducible rfl
  simp only [Act.put, Rg.e1, Rg.e2, Rg.e3, Rg.e4, Rg.e5, Rg.e6]
  refine Rg.tk 2 (v := ?_) ?_ ?_
  rotate_left
  · (intro wx hSx; go_simp; all_goals with_reducible rfl)
  simp only [Act.put, Rg.e1, Rg.e2, Rg.e3, Rg.e4, Rg.e5, Rg.e6]
  refine Rg.tk 3 (v := ?_) ?_ ?_
  rotate_left
  · intro wx hSx
    cases Rw4.row hSx.1; cases Rw4.row hSx.2.1; go_simp
    all_goals with_reducible rfl
  simp only [Act.put, Rg.e1, Rg.e2, Rg.e3, Rg.e4, Rg.e5, Rg.e6]
  refine Rg.tk 5 (v := ?_) ?_ ?_
  rotate_left
  · (intro wx hSx; go_simp; all_goals with_reducible rfl)
  simp only [Act.put, Rg.e1, Rg.e2, Rg.e3, Rg.e4, Rg.e5, Rg.e6]
  refine Rg.tk 6 (v := ?_) ?_ ?_
  rotate_left
  · intro wx hSx
    cases Rw4.row hSx.1; cases Rw4.row hSx.2.1; go_simp
    all_goals with_reducible rfl
  simp only [Act.put, Rg.e1, Rg.e2, Rg.e3, Rg.e4, Rg.e5, Rg.e6]
  refine Rg.tk 7 (v := ?_) ?_ ?_
  rotate_left
  · (intro wx hSx; go_simp; all_goals with_reducible rfl)
  simp only [Act.put, Rg.e1, Rg.e2, Rg.e3, Rg.e4, Rg.e5, Rg.e6]
  refine Rg.tk 8 (v := ?_) ?_ ?_
  rotate_left
  · intro wx hSx
    cases Rw4.row hSx.1; cases Rw4.row hSx.2.1; go_simp
    all_goals with_reducible rfl
  simp only [Act.put, Rg.e1, Rg.e2, Rg.e3, Rg.e4, Rg.e5, Rg.e6]
  refine wpAnyH_ready (rs := [4]) (by kernel_rfl) (by simp) ?_
  refine .cons (o := _) rfl (fun K hK => ?_) ?_
  · go_simp
    refine (cmp_16 HC1.out _).mono ?_
    rintro e wd ⟨rfl, rfl⟩
    go_wp2_with fail
    refine Rg.st_same hK hHeld (fun hHeld => ?_)
    clear hK K
    try simp only [Rg.e1, Rg.e2, Rg.e3]
    refine wpAnyH_ready (rs := [9]) (by kernel_rfl) (by simp) ?_
    refine .cons (o := _) rfl (fun K hK => ?_) ?_
    · go_simp
      refine (cmp_64 HC2.out _).mono ?_
      rintro e wd ⟨rfl, rfl⟩
      go_wp2_with fail
      refine Rg.st_same hK hHeld (fun hHeld => ?_)
      clear hK K
      try simp only [Rg.e1, Rg.e2, Rg.e3]
      refine wpAnyH_ready (rs := [10]) (by kernel_rfl) (by simp) ?_
      refine .cons (o := _) rfl (fun K hK => ?_) ?_
      · go_simp
        refine st_more hK (keep_s hHeld _) ?_
        clear hK K
        intro wr3 hHeld
        try simp only [Rg.e1, Rg.e2, Rg.e3]
        refine wpAnyH_ready (rs := [11]) (by kernel_rfl) (by simp) ?_
        refine .cons (o := _) rfl (fun K hK => ?_) ?_
        · go_simp
          refine (or_any hHeld.2 HC3.out).mono ?_
          rintro e wr3 ⟨rfl, rfl⟩
          go_wp2_with fail
          refine Rg.st_same hK hHeld (fun hHeld => ?_)
          clear hK K
          try simp only [Rg.e1, Rg.e2, Rg.e3]
          refine Rg.tk 12 (v := ?_) ?_ ?_
          rotate_left
          · (intro wx hSx; go_simp; all_goals with_reducible rfl)
          simp only [Act.put, Rg.e1, Rg.e2, Rg.e3, Rg.e4, Rg.e5, Rg.e6]
          refine wpAnyH_done (by kernel_rfl) ?_ _
          go_wp2
          go_ret
          exact ⟨rfl, hHeld.1.2.2⟩
        exact AllReadyH.nil
      exact AllReadyH.nil
    exact AllReadyH.nil
  exact AllReadyH.nil

instance : Inhabited Fr := ⟨⟨0, 0, 0, 0⟩⟩
theorem lt_is (x y : Fr) : ltOf cmpR x y = decide (klt x y) := by
  rw [Bool.eq_iff_iff]
  unfold ltOf cmpR cmpN
  rw [decide_eq_true_iff, decide_eq_true_iff]
  unfold klt
  by_cases h1 : x.vlan < y.vlan
  · simp [h1]
  by_cases h2 : y.vlan < x.vlan
  · simp [h1, h2]; omega
  have e : x.vlan = y.vlan := by omega
  by_cases h3 : x.addr < y.addr
  · simp [e, h3]
  by_cases h4 : y.addr < x.addr
  · simp [e, h3, h4]
  · simp [e, h3, h4]
theorem swo : SWO (ltOf cmpR) where
  irrefl x := by rw [lt_is]; simp [klt]
  trans x y z h1 h2 := by rw [lt_is] at *; simp only [decide_eq_true_eq] at *; exact klt_trans h1 h2
  ntrans x y z h1 h2 := by rw [lt_is, decide_eq_false_iff_not] at h1 h2 ⊢; unfold klt at h1 h2 ⊢; omega
theorem sorted_is {d d' : Array Fr} {l : List Fr} (hp : PermIn 0 d.size d d') (hs : SortedIn (ltOf cmpR) 0 d.size d') (hd : d.toList.Perm l) (hr : Rising l) : d'.toList = l := by
  obtain ⟨h1, _, h3⟩ := hp
  have e1 : d'.extract 0 d.size = d' := by rw [← h1]; simp
  have e2 : d.extract 0 d.size = d := by simp
  rw [e1, e2] at h3
  have hpl : d'.toList.Perm l := h3.trans hd
  have hne : d'.toList.Pairwise (fun x y => ¬ ksame x y) := (hpl.pairwise_iff (fun {a b} (h : ¬ ksame a b) (k : ksame b a) => h ⟨k.1.symm, k.2.symm⟩)).2 (hr.imp (fun h => klt_ne h))
  refine same_rows ?_ hr (fun x => hpl.mem_iff)
  show List.Pairwise klt d'.toList
  rw [List.pairwise_iff_getElem] at hne ⊢
  intro i j hi hj hij
  have g1 := hs i j (Nat.zero_le _) hij (by rw [← h1]; simpa using hj)
  rw [lt_is, getElem!_pos d' j (by simpa using hj), getElem!_pos d' i (by simpa using hi)] at g1
  have g2 := hne i j hi hj hij
  simp only [decide_eq_false_iff_not, Array.getElem_toList] at g1 g2 ⊢
  rcases klt_or d'[i] d'[j] with k | k | k
  · exact k
  · exact absurd k g2
  · exact absurd k g1
theorem grown_sorted {w : World} {g n : Nat} {os : Array Obj} (d : Array Fr) : w.grownBy (sortWorldK e4 4 w g 0 n d os) (some g) := by
  unfold sortWorldK
  refine ⟨rfl, rfl, rfl, by simp [putRowK, putRow, mapBlock, Sort.ahead, grow], fun k hk hne => ?_⟩
  rw [heap_grow_old _ _ (by simpa [putRowK, putRow, mapBlock, Sort.ahead] using hk)]
  have : g ≠ k := fun e => hne (by rw [e])
  simp [putRowK, putRow, mapBlock, Sort.ahead, Array.getElem?_modify, this]
theorem lays (g n : Nat) (w : World) : CmpLays Try.prog 34 #[] e4 4 cmpR g 0 n w := fun _ _ _ _ x y => by_at x.vlan x.addr y.vlan y.addr x.port x.seen y.port y.seen _ _ _ _ rfl rfl rfl
theorem sort_any {w : World} {g cap : Nat} {d l : List Fr} (hd : d.Perm l) (hr : Rising l) (hb : HoldsK e4 4 w g 0 d.toArray) (hg : g < w.heap.size) (hn : d.length < 4611686018427387904) :
    Calls Try.prog 33 #[.slice (some ⟨g, 0, none⟩) d.length cap, .func (.func 34) #[] #[]] w fun e w' => e = .returned (.tuple #[]) ∧ HoldsK e4 4 w' g 0 l.toArray ∧ w.grownBy w' (some g) := by
  have eg : ∀ args w, (callFunc 34 args).run Try.prog w = .ok (.enter 34 args) w := enters_of Try.func34 (by kernel_rfl) rfl
  have hc := AnyQ.slices_SortFunc Try.sortT 4 Try.isAgg75 Try.sizeOf75 e4 e4_len e4_one cmpR swo 34 #[] g 0 cap d.toArray w eg (lays g _ w) hb hg (by simpa using hn)
  refine hc.mono ?_
  rintro e w' ⟨he, d', n, os, hp, hs, hw⟩
  have e1 := sorted_is hp hs hd hr
  refine ⟨he, ?_, by rw [hw]; exact grown_sorted _⟩
  have h2 := holdsK_sortWorldK_c e4 4 w g 0 d.toArray d' n os hb hg hp.1
  rw [hw, ← e1]
  exact h2

end Go.Proofs.Yteaghbdeleaanaa.Fd
namespace Go.Proofs.Yteaghbdeleaanaa.Fd
open Go.RowKit Go.Maps Go.Sort Go.Proofs.Yteaghbdeleaanaa.Mm Go.Proofs.Yteaghbdeleaanaa.Tg

theorem flat_at (l : List Fr) (j : Nat) (hj : j < l.length * 4) : (rowCs l)[j]? = some (flatK e4 4 l.toArray)[j]! := by
  have hi : j / 4 < l.length := by omega
  have hx : l[j / 4]? = some l[j / 4] := List.getElem?_eq_getElem hi
  have h1 := rowCs_at l (j / 4) (j % 4) _ hx (by omega)
  rw [show j / 4 * 4 + j % 4 = j by omega] at h1
  rw [h1, get_flatK _ _ _ _ (by simpa using hj), getElem!_pos l.toArray (j / 4) (by simpa using hi)]
  have h4 : j % 4 < (e4 l[j / 4]).length := by rw [e4_len]; omega
  rw [List.getElem?_eq_getElem h4]
  simp only [List.getElem_toArray]
  exact congrArg some (getElem!_pos (e4 l[j / 4]) (j % 4) h4).symm
theorem holds_own {w : World} {base g cap : Nat} {e : TypeId} {d : List Fr} (h : w.ownsRow base e 4 (.slice (some ⟨g, 0, none⟩) d.length cap) d.length (rowCs d)) : HoldsK e4 4 w g 0 d.toArray := by
  intro j hj
  have hj' : j < d.length * 4 := by simpa using hj
  rw [Nat.zero_add]
  exact ⟨by rw [h.cellAt j hj', flat_at d j hj']; rfl, h.frozenAt j⟩
theorem holds_rd {w : World} {g : Nat} {l : List Fr} (h : HoldsK e4 4 w g 0 l.toArray) (hg : g < w.heap.size) : Rd w w.heap.size (some ⟨g, 0, none⟩) (rowCs l) := fun _ => by
  refine ⟨_, rfl, hg, fun j u hu => ?_⟩
  have hj : j < l.length * 4 := by rw [← rowCs_len]; exact (List.getElem?_eq_some_iff.1 hu).1
  rw [flat_at l j hj] at hu
  injection hu with hu
  have := (h j (by simpa using hj)).1
  rw [Nat.zero_add] at this
  rw [show (Addr.mk g 0 none).add j = ⟨g, j, none⟩ by unfold Addr.add; split <;> simp_all, this, ← hu]
  rfl
/-- what a range has met so far -/
def Coll (l d : List Fr) (left : Lit → Bool) : Prop := d.Perm (l.filter (fun x => !left (kl x.vlan x.addr)))
theorem coll_start {l : List Fr} (hk : ∀ x ∈ l, okK x) (hr : Rising l) : Coll l [] (Maps.has (toD l)) := by
  unfold Coll
  rw [List.filter_eq_nil_iff.2]
  intro x hx
  rw [toD_has (hk x hx) hk, (find_some hr).2 ⟨hx, rfl, rfl⟩]
  simp
theorem coll_end {l d : List Fr} {left : Lit → Bool} (h : Coll l d left) (h0 : ∀ k, left k = false) : d.Perm l := by
  unfold Coll at h
  rwa [List.filter_eq_self.2 (fun x _ => by rw [h0]; rfl)] at h
theorem perm_more {X : Fr} (p : Fr → Bool) (hp : p X = false) : ∀ {l : List Fr}, Rising l → X ∈ l → (l.filter (fun x => p x || decide (x = X))).Perm (X :: l.filter p)
  | y :: l, hr, hX => by
    obtain ⟨h1, h2⟩ := List.pairwise_cons.1 hr
    rcases List.mem_cons.1 hX with e | hX
    · subst e
      have hn : l.filter (fun x => p x || decide (x = X)) = l.filter p := List.filter_congr fun x hx => by
        have : x ≠ X := fun e => klt_ne (h1 x hx) (e ▸ ⟨rfl, rfl⟩)
        simp [this]
      rw [List.filter_cons_of_pos (by simp), List.filter_cons_of_neg (by simp [hp]), hn]
    · have ih := perm_more p hp h2 hX
      have hne : y ≠ X := fun e => klt_ne (h1 X hX) (e ▸ ⟨rfl, rfl⟩)
      by_cases hy : p y = true
      · rw [List.filter_cons_of_pos (by simp [hy]), List.filter_cons_of_pos hy]
        exact (ih.cons y).trans (List.Perm.swap _ _ _)
      · rw [List.filter_cons_of_neg (by simp [hy, hne]), List.filter_cons_of_neg hy]
        exact ih
theorem coll_step {l d : List Fr} {left : Lit → Bool} (h : Coll l d left) (hk : ∀ x ∈ l, okK x) (hr : Rising l) {X : Fr} (hX : X ∈ l) (hl : left (kl X.vlan X.addr) = true) : Coll l (d ++ [X]) (fun z => left z && !z.sameKey (kl X.vlan X.addr)) := by
  unfold Coll at h ⊢
  have e : l.filter (fun x => !(left (kl x.vlan x.addr) && !(kl x.vlan x.addr).sameKey (kl X.vlan X.addr))) = l.filter (fun x => !left (kl x.vlan x.addr) || decide (x = X)) := List.filter_congr fun x hx => by
    rw [kl_same (hk x hx) (hk X hX)]
    by_cases g : x.vlan = X.vlan ∧ x.addr = X.addr
    · have := one_row hr hx hX g
      simp [this]
    · have : x ≠ X := fun e => g (e ▸ ⟨rfl, rfl⟩)
      simp [g, this]
  rw [e]
  exact (List.perm_append_singleton X d).trans ((h.cons X).trans (perm_more _ (by simp [hl]) hr hX).symm)
theorem coll_len {l d : List Fr} {left : Lit → Bool} (h : Coll l d left) : d.length ≤ l.length := by
  rw [List.Perm.length_eq h]; exact List.length_filter_le _ _
theorem info_row : (Try.prog.info? 75).map (fun i => (i.zero, i.size, i.bytes)) = some (some (.agg #[.int .u16 0, .int .u64 0, .int .i64 0, .int .i64 0]), 4, 32) := by kernel_rfl
theorem grown_below {w w' : World} (h : w.grownBy w' none) : Below w.heap.size w w' := ⟨h.os, h.tape, h.output, h.size, fun k hk => h.block k hk (by simp)⟩

set_option maxRecDepth 100000 in
set_option maxHeartbeats 4000000 in
theorem rows_any {room age : Int} {b : Nat} {l : List Fr} {w : World} (h : Mp w b l) (hr : Rising l) (hk : ∀ x ∈ l, okK x) (hn : l.length ≤ 1024) :
    Calls Try.prog 20 #[tbV room age (some b)] w fun e w' => ∃ A c, e = .returned (.slice A l.length c) ∧ Rd w' w'.heap.size A (rowCs l) ∧ Below w.heap.size w w' := by
  have HM := Lib.hid h; have HS := Lib.hid hr; have HK := Lib.hid hk
  clear h hr hk
  obtain ⟨i0, hi, hz0, hz1, hz2⟩ := info_parts info_row
  go_enter Try.func20, Try.ntmps20
  go_upto_region 1 with (fail)
  have HA := Lib.hid (Blk.fresh w 32 (tbC room age (some b)))
  have HB := Lib.hid ((Below.refl w.heap.size w).alloc (Nat.le_refl _) (.cells (tbC room age (some b)) 32))
  have HM0 := Lib.hid (HM.out.alloc (.cells (tbC room age (some b)) 32))
  generalize w.alloc (.cells (tbC room age (some b)) 32) = w0 at HA HB HM0 ⊢
  have hlen := HM0.out.len
  obtain ⟨base, hbase⟩ : ∃ base, base = w0.heap.size := ⟨_, rfl⟩
  have L0 : b < base := by rw [hbase]; exact HM0.out.lt
  have L1 : w.heap.size < base := by rw [hbase]; exact HA.out.lt
  cases Rw3.row HA.out
  go_upto_region 2 with (first
    | (at_make; refine wpList_make_own _ rfl _ _ 58 rfl base 75 i0 _ 4 Try.underlying58 hi hz0 hz1 .i64 .i64 _ l.length rfl rfl rfl (by rw [hz2]; omega) (by unfold maxLen; omega) (by omega) ?_; intro w1 hown hg)
    | go_in)
  rw [← hbase] at hown ⊢
  have HA1 := Lib.hid (HA.out.grown hg (by simp))
  have HB1 := Lib.hid (HB.out.grown hg HB.out.size (fun k hk => by cases hk))
  have HM1 := Lib.hid (HM0.out.on (grown_below hg))
  have HO1 := Lib.hid hown
  have L2 : base < w1.heap.size := (hown.lt base rfl).2
  clear hg hown hbase hlen
  obtain ⟨r, hrr⟩ : ∃ r, r = w1.heap.size := ⟨_, rfl⟩
  have L3 : base < r := by rw [hrr]; exact L2
  clear L2
  cases Rw3.row HA1.out
  go_wp2_with (at_range; refine wpList_range_own _ rfl _ _ rfl 53 50 law Try.underlying30 Rs b l.length (toD l) rfl HM1.out ?_; intro w2 hrg0 hg0 hs0)
  rw [← hrr] at hrg0 ⊢
  have HA2 := Lib.hid (HA1.out.grown hg0 (by simp))
  have HB2 := Lib.hid (HB1.out.grown hg0 HB1.out.size (fun k hk => by cases hk))
  have HO2 := Lib.hid (own_below HO1.out (grown_below hg0))
  have HG := Lib.hid hrg0
  clear hg0 hs0 hrg0 hrr
  go_frame
  go_loopw [3, 13] (fun v _ wr => ∃ (left : Lit → Bool) (cnt : Nat) (d : List Fr) (g rc : Nat), v = .slice (some ⟨g, 0, none⟩) d.length rc ∧ Coll l d left ∧ wr.ranges Try.prog 53 Rs b r l.length (toD l) left cnt ∧ wr.ownsRow base 75 4 (.slice (some ⟨g, 0, none⟩) d.length rc) d.length (rowCs d) ∧ RowKit.Below w.heap.size w wr)
    (fun _ _ wr => wr.rangeLeft b r)
  case atStart => exact ⟨_, _, [], base, l.length, rfl, coll_start HK.out HS.out, HG.out, HO2.out, HB2.out⟩
  case round =>
    obtain ⟨left, cnt, d, g, rc, rfl, hco, hrg, hown, hbw⟩ := hrel
    have HG0 := Lib.hid hrg; have HOw := Lib.hid hown; have HBw := Lib.hid hbw; have HCO := Lib.hid hco
    clear hrg hown hbw hco
    go_wp2_with (first
      | (at_next; refine wpList_next_ranges _ rfl _ rfl 53 law Rs mkK mkV inv_k inv_v b r l.length _ _ _ rfl HG0.out ?_ ?_)
      | go_in)
    · intro _ hl0
      have hp := coll_end HCO.out hl0
      have hlen := hp.length_eq
      have HC : Aside _ := sort_any (w := wr) (g := g) (cap := rc) hp HS.out (holds_own HOw.out) (HOw.out.lt g rfl).2 (by omega)
      rw [hlen] at HC HOw ⊢
      clear hl0 hp
      go_wp2_with fail
      refine Calls.mono HC.out ?_
      rintro e w4 ⟨rfl, hh, hg⟩
      have hgl := HOw.out.lt g rfl
      have L4 : g < w4.heap.size := Nat.lt_of_lt_of_le hgl.2 hg.size
      have HH := Lib.hid hh
      have HB4 := Lib.hid (HBw.out.grown hg HBw.out.size (fun k hk => by injection hk; omega))
      clear hh hg hgl HC
      go_wp2
      go_ret
      exact ⟨_, _, rfl, holds_rd HH.out L4, HB4.out⟩
    · intro v a p s k yd yp w3 cnt1 hkey hlk hv hat hrg1 hlt hg1 hs1 hen
      obtain ⟨hx, hkl, hin⟩ := entry_row (q := (v, a)) (c := (p, s)) (y := (yd, yp)) HK.out hkey hat hv
      subst hkl
      change _ = Result.ok (Value.tuple #[keyV v a, sgV p s]) w3 at hen
      have hco3 := coll_step HCO.out HK.out HS.out hx hlk
      have hd := coll_len hco3
      rw [List.length_append, List.length_singleton] at hd
      have HCO3 := Lib.hid hco3
      have HG3 := Lib.hid hrg1
      have HO3 := Lib.hid (HOw.out.kept hg1 (.inr (fun e => row_ne_iter HOw.out HG0.out e.symm)))
      have HB3 := Lib.hid (HBw.out.grown hg1 HBw.out.size (fun k hk => by injection hk; omega))
      have HLT := Lib.hid hlt
      clear hkey hlk hv hat hrg1 hg1 hs1 hx hin hlt hco3
      go_upto_region 5 with (fail)
      obtain ⟨z, hz⟩ : ∃ z, z = w3.heap.size := ⟨_, rfl⟩
      have L4 : r < z := by rw [hz]; exact HG3.out.lt
      have HK4 := Lib.hid (blk_two w3 53 50 #[.int .u16 (v : Int), .int .u64 (a : Int)] #[.int .i64 p, .int .i64 s])
      have HS4 := Lib.hid (fresh_second w3 (.cells #[.int .u16 (v : Int), .int .u64 (a : Int)] 53) 50 #[.int .i64 p, .int .i64 s])
      have HQ := Lib.hid (below_two w3 (.cells #[.int .u16 (v : Int), .int .u64 (a : Int)] 53) (.cells #[.int .i64 p, .int .i64 s] 50))
      have HG4 := Lib.hid (HG3.out.kept (below_grow HQ.out) (by simp) (by simp))
      have HO4 := Lib.hid (own_below HO3.out HQ.out)
      have HB4 := Lib.hid (HB3.out.trans (HQ.out.mono HB3.out.size))
      rw [← hz] at HK4 HS4 ⊢
      clear hz HQ
      generalize (w3.alloc (.cells #[.int .u16 (v : Int), .int .u64 (a : Int)] 53)).alloc (.cells #[.int .i64 p, .int .i64 s] 50) = w4 at HK4 HS4 HG4 HO4 HB4 ⊢
      have L5 : base ≤ w4.heap.size := by have := HG4.out.lt; omega
      cases Rw2.row HK4.out
      cases Rw2.row HS4.out
      go_wp2_with (at_builtin; refine wpList_append_own _ rfl (.tmp 18) (.tmp 28) 58 rfl base 75 i0 (.agg #[.int .u16 0, .int .u64 0, .int .i64 0, .int .i64 0]) 4 32 Try.underlying58 hi hz0 hz1 hz2 rfl (by decide) _ _ _ rfl (HO4.out.alloc _) ⟨w4.heap.size, 0, none⟩ 1 1 (e4 ⟨v, a, p, s⟩) rfl rfl (cells_new _ _ _ _ _ rfl rfl) (e4_one _) (by unfold maxLen; omega) (by omega) (by simp; omega) ?_; intro v' w5 hown' hgrow _)
      have HO5 := Lib.hid hown'
      have hlo := (HO4.out.alloc (.cells (e4 ⟨v, a, p, s⟩).toArray 75)).lt
      have HG5 := Lib.hid ((HG4.out.alloc (.cells (e4 ⟨v, a, p, s⟩).toArray 75)).kept hgrow (row_ne_low (HO4.out.alloc (.cells (e4 ⟨v, a, p, s⟩).toArray 75)) L0) (row_ne_iter (HO4.out.alloc (.cells (e4 ⟨v, a, p, s⟩).toArray 75)) (HG4.out.alloc _)))
      have HB5 := Lib.hid ((HB4.out.alloc HB4.out.size (.cells (e4 ⟨v, a, p, s⟩).toArray 75)).grown hgrow (HB4.out.alloc HB4.out.size _).size (fun k hk => by have := (hlo k hk).1; omega))
      obtain ⟨g', c', rfl, _, _⟩ := hown'.form (by omega)
      clear hown' hgrow hlo
      go_roundw
      case rel => exact ⟨_, cnt1, d ++ [⟨v, a, p, s⟩], g', c', by rw [List.length_append]; rfl, HCO3.out, HG5.out, by rw [List.length_append, rowCs_app, rowCs_one]; exact HO5.out, HB5.out⟩
      case measure => rw [HG5.out.left_eq, HG0.out.left_eq]; exact HLT.out

set_option maxRecDepth 100000 in
set_option maxHeartbeats 2000000 in
theorem rows_nil (w : World) :
    Calls Try.prog 20 #[tbV 0 0 none] w fun e w' => ∃ A c, e = .returned (.slice A 0 c) ∧ RowKit.Below w.heap.size w w' := by
  obtain ⟨i0, hi, hz0, hz1, hz2⟩ := info_parts info_row
  go_enter Try.func20, Try.ntmps20
  go_upto_region 1 with (fail)
  have HA := Lib.hid (Blk.fresh w 32 (tbC 0 0 none))
  have HB := Lib.hid ((Below.refl w.heap.size w).alloc (Nat.le_refl _) (.cells (tbC 0 0 none) 32))
  generalize w.alloc (.cells (tbC 0 0 none) 32) = w0 at HA HB ⊢
  have hlen := fun ty => Maps.len_nil (w := w0) Try.underlying30 ty
  obtain ⟨base, hbase⟩ : ∃ base, base = w0.heap.size := ⟨_, rfl⟩
  have L1 : w.heap.size < base := by rw [hbase]; exact HA.out.lt
  cases Rw3.row HA.out
  go_upto_region 2 with (first
    | (at_make; refine wpList_make_own _ rfl _ _ 58 rfl base 75 i0 _ 4 Try.underlying58 hi hz0 hz1 .i64 .i64 _ 0 rfl rfl rfl (by rw [hz2]; omega) (by unfold maxLen; omega) (by omega) ?_; intro w1 hown hg)
    | go_in)
  rw [← hbase] at hown ⊢
  have HA1 := Lib.hid (HA.out.grown hg (by simp))
  have HB1 := Lib.hid (HB.out.grown hg HB.out.size (fun k hk => by cases hk))
  have L2 : base < w1.heap.size := (hown.lt base rfl).2
  clear hg hown hbase hlen
  have hrg := run_range_nilMap (P := Try.prog) w1 30 _ _ Try.underlying30
  have hnx : ∀ ty, (Instr.next (.pointer (some ⟨w1.heap.size, 0, none⟩)) false ty).run Try.prog (w1.alloc (.mapIter none 0 #[] 0)) = _ := fun ty => run_next_nilMap _ ty 0 0 #[]
  have HC : Aside _ := sort_any (w := w1.alloc (.mapIter none 0 #[] 0)) (g := base) (cap := 0) (d := []) (l := []) (List.Perm.refl _) List.Pairwise.nil (fun j hj => by simp at hj) (by simp; omega) (by simp)
  cases Rw3.row HA1.out
  go_wp2
  refine wp_loop_rounds 1 ?_
  rw [rounds_succ]
  go_wp2_with fail
  refine Calls.mono HC.out ?_
  rintro e w4 ⟨rfl, _, hg⟩
  have HB4 := Lib.hid ((HB1.out.alloc HB1.out.size (.mapIter none 0 #[] 0)).grown hg (HB1.out.alloc HB1.out.size _).size (fun k hk => by injection hk; omega))
  clear hg HC
  go_wp2
  go_ret
  exact ⟨_, _, rfl, HB4.out⟩
end Go.Proofs.Yteaghbdeleaanaa.Fd
