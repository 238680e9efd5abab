/-
  Tables, the program's: a map in a block as rows; is a row old, why can't it be learned, New, with.
-/
import Derived.Test.YtljkodfdiebfiaaFdbB
import Derived.Test.YtljkodfdiebfiaaRow4
import Derived.Test.YtljkodfdiebfiaaMacB
import Derived.Maps.OwnSet
import Derived.Shelf.SlMaps.Clone
namespace Go.Proofs.Ytljkodfdiebfiaa.Fd
open Go.RowKit Go.Maps Go.Proofs.Ytljkodfdiebfiaa.Mm Go.Proofs.Ytljkodfdiebfiaa.Tg

/-- block b is a map that has just these rows -/
def Mp (w : World) (b : Nat) (l : List Fr) : Prop := w.ownsMap Try.prog 53 Rs b l.length (toD l)
section
variable {w w' : World} {b n : Nat} {l : List Fr}
theorem Mp.of (h : w.ownsMap Try.prog 53 Rs b n (toD l)) : Mp w b l := by
  obtain ⟨es, clock, hb, F, _, hD⟩ := h
  refine ⟨es, clock, hb, F, ?_, hD⟩
  have e := congrArg Maps.size hD
  rw [toD_size] at e
  rw [e]
  show es.size ≤ List.length _
  rw [length_sorted]
  simp
theorem Mp.lt (h : Mp w b l) : b < w.heap.size := World.ownsMap.lt h
theorem Mp.below {B : Nat} (h : Mp w b l) (hb : Below B w w') (hg : b < B) : Mp w' b l := by
  obtain ⟨es, clock, h1, h2⟩ := h
  exact ⟨es, clock, (hb.block b hg).trans h1, h2⟩
theorem Mp.on (h : Mp w b l) (hb : Below w.heap.size w w') : Mp w' b l := h.below hb h.lt
theorem Mp.alloc (h : Mp w b l) (o : Obj) : Mp (w.alloc o) b l := World.ownsMap.alloc h o
theorem Mp.new (w : World) : Mp (w.alloc (.map #[] 0)) w.heap.size [] := World.ownsMap_made w _ _ _
theorem Mp.hit (h : Mp w b l) (hk : ∀ x ∈ l, okK x) {v a : Nat} (hin : InK v a) {x : Fr} (hf : findK l v a = some x) : (Instr.lookup 24 (.map (some b)) (keyV v a) true).run Try.prog w = .ok (.tuple #[sgV x.port x.seen, .bool true]) w := by
  obtain ⟨v', ps, hrun, hv⟩ := World.ownsMap.look_ok h law Try.underlying24 (zeroS w) (rs_mk 0 0) (keyK hin)
  obtain ⟨q, rfl, hq⟩ := rs_inv hv
  rw [toD_at hin _ hk, hf] at hq
  simp only [Prod.mk.injEq] at hq
  obtain ⟨e1, e2⟩ := sg_inj hq.1
  rw [hrun, toD_has hin hk, hf, ← e1, ← e2]
  rfl
theorem Mp.miss (h : Mp w b l) (hk : ∀ x ∈ l, okK x) {v a : Nat} (hin : InK v a) (hf : findK l v a = none) : (Instr.lookup 24 (.map (some b)) (keyV v a) true).run Try.prog w = .ok (.tuple #[sgV 0 0, .bool false]) w := by
  obtain ⟨v', ps, hrun, hv⟩ := World.ownsMap.look_ok h law Try.underlying24 (zeroS w) (rs_mk 0 0) (keyK hin)
  obtain ⟨q, rfl, hq⟩ := rs_inv hv
  rw [toD_at hin _ hk, hf] at hq
  simp only [Prod.mk.injEq] at hq
  obtain ⟨e1, e2⟩ := sg_inj hq.1
  rw [hrun, toD_has hin hk, hf, ← e1, ← e2]
  rfl
theorem Mp.len (h : Mp w b l) (ty : TypeId) : (Builtin.len_ #[24] ty #[.map (some b)]).run Try.prog w = .ok (.int .i64 (l.length : Int)) w := by
  have := World.ownsMap.len h Try.underlying24 ty
  rwa [toD_size] at this
end
/-- a look-up whose answer is known -/
theorem wpList_look {P : Program} (w : World) {ops : Array Oper} {rest : List Oper} {o : Oper} {a : Act} {Q : Exit → Act → World → Prop}
    (hg : o.guard = none) (m x : Operand) (t : TypeId) (hop : o.op = Op.lookup t m x true) (b : Nat) (key r : Value)
    (hm : a.eval m = .map (some b)) (hx : a.eval x = key) (hrun : (Instr.lookup t (.map (some b)) key true).run P w = .ok r w)
    (hK : wpList P ops Q rest (a.put o.dst r) w) : wpList P ops Q (o :: rest) a w := by
  refine wpList_plain hg fun K' hK' => ?_
  unfold Oper.wp
  simp [execOp, hop, hm, hx, hrun, Result.andThen]
  exact hK' _ _ hK

abbrev tbC (room age : Int) (b : Option Nat) : Array Value := #[.int .i64 room, .int .i64 age, .map b]
abbrev tbV (room age : Int) (b : Option Nat) : Value := .agg (tbC room age b)
theorem below_two (w : World) (a b : Obj) : Below w.heap.size w ((w.alloc a).alloc b) := ((Below.refl w.heap.size w).alloc (Nat.le_refl _) a).alloc (by simp) b
theorem below_three (w : World) (a b c : Obj) : Below w.heap.size w (((w.alloc a).alloc b).alloc c) := (below_two w a b).alloc (by simp; omega) c

set_option maxRecDepth 100000 in
set_option maxHeartbeats 1000000 in
theorem old_any (room age p s now y : Int) (b : Option Nat) (w : World) (hw : IntKind.i64.wrap (s + age) = y) :
    Calls Try.prog 26 #[tbV room age b, sgV p s, .int .i64 now] w fun e w' => e = .returned (.bool (decide (y ≤ now))) ∧ Below w.heap.size w w' := by
  go_enter Try.func26, Try.ntmps26
  go_wp2
  go_ret
  exact ⟨rfl, below_two w _ _⟩
/-- what a look-up finds -/
def found : Option Fr → Int × Int × Bool
  | some x => (x.port, x.seen, true)
  | none => (0, 0, false)
theorem Mp.look {w : World} {b : Nat} {l : List Fr} (h : Mp w b l) (hk : ∀ x ∈ l, okK x) {v a : Nat} (hin : InK v a) {p s : Int} {k : Bool} (hf : found (findK l v a) = (p, s, k)) : (Instr.lookup 24 (.map (some b)) (keyV v a) true).run Try.prog w = .ok (.tuple #[sgV p s, .bool k]) w := by
  cases ho : findK l v a with
  | none => rw [ho] at hf; simp only [found, Prod.mk.injEq] at hf; obtain ⟨rfl, rfl, rfl⟩ := hf; exact h.miss hk hin ho
  | some x => rw [ho] at hf; simp only [found, Prod.mk.injEq] at hf; obtain ⟨rfl, rfl, rfl⟩ := hf; exact h.hit hk hin ho

set_option maxRecDepth 100000 in
set_option maxHeartbeats 2000000 in
theorem wrong_r1 (room age p : Int) (v a : Nat) {b : Nat} {l : List Fr} {w : World} {q s : Int} {k : Bool} (h : Mp w b l) (hk : ∀ x ∈ l, okK x) (hin : InK v a) (hf : found (findK l v a) = (q, s, k))
    (c1 : decide ((v : Int) < 1) = true) :
    Calls Try.prog 19 #[tbV room age (some b), keyV v a, .int .i64 p] w fun e w' => e = .returned (.int .i64 4) ∧ Below w.heap.size w w' := by
  have h2 := (h.alloc (.cells (tbC room age (some b)) 26)).alloc (.cells #[.int .u16 (v : Int), .int .u64 (a : Int)] 53)
  have hl := Lib.hid (h2.look hk hin hf)
  have HA := Lib.hid hin.2
  clear h h2 hk hf hin
  go_enter Try.func19, Try.ntmps19
  go_wp2_with (at_lookup; refine wpList_look _ rfl _ _ _ rfl b _ _ rfl rfl hl.out ?_)
  go_ret
  exact ⟨rfl, below_three w _ _ _⟩
set_option maxRecDepth 100000 in
set_option maxHeartbeats 2000000 in
theorem wrong_r2 (room age p : Int) (v a : Nat) {b : Nat} {l : List Fr} {w : World} {q s : Int} {k : Bool} (h : Mp w b l) (hk : ∀ x ∈ l, okK x) (hin : InK v a) (hf : found (findK l v a) = (q, s, k))
    (c1 : decide ((v : Int) < 1) = false) (c2 : decide (4094 < (v : Int)) = true) :
    Calls Try.prog 19 #[tbV room age (some b), keyV v a, .int .i64 p] w fun e w' => e = .returned (.int .i64 4) ∧ Below w.heap.size w w' := by
  have h2 := (h.alloc (.cells (tbC room age (some b)) 26)).alloc (.cells #[.int .u16 (v : Int), .int .u64 (a : Int)] 53)
  have hl := Lib.hid (h2.look hk hin hf)
  have HA := Lib.hid hin.2
  clear h h2 hk hf hin
  go_enter Try.func19, Try.ntmps19
  go_wp2_with (at_lookup; refine wpList_look _ rfl _ _ _ rfl b _ _ rfl rfl hl.out ?_)
  go_ret
  exact ⟨rfl, below_three w _ _ _⟩
set_option maxRecDepth 100000 in
set_option maxHeartbeats 2000000 in
theorem wrong_f1 (room age p : Int) (v a : Nat) {b : Nat} {l : List Fr} {w : World} {q s : Int} {k : Bool} (h : Mp w b l) (hk : ∀ x ∈ l, okK x) (hin : InK v a) (hf : found (findK l v a) = (q, s, k))
    (c1 : decide ((v : Int) < 1) = false) (c2 : decide (4094 < (v : Int)) = false) (hm : Mc.mayB a = false) :
    Calls Try.prog 19 #[tbV room age (some b), keyV v a, .int .i64 p] w fun e w' => e = .returned (.int .i64 3) ∧ Below w.heap.size w w' := by
  have h2 := (h.alloc (.cells (tbC room age (some b)) 26)).alloc (.cells #[.int .u16 (v : Int), .int .u64 (a : Int)] 53)
  have hl := Lib.hid (h2.look hk hin hf)
  have HM := Lib.hid hm
  have HA := Lib.hid hin.2
  clear h h2 hk hf hin hm
  go_enter Try.func19, Try.ntmps19
  go_wp2_with (first | (at_lookup; refine wpList_look _ rfl _ _ _ rfl b _ _ rfl rfl hl.out ?_) | (go_at_call 39; refine (Mc.may_b _ a _ HM.out).mono ?_; rintro e w' ⟨rfl, rfl⟩))
  go_ret
  exact ⟨rfl, below_three w _ _ _⟩
set_option maxRecDepth 100000 in
set_option maxHeartbeats 2000000 in
theorem wrong_f2 (room age p : Int) (v a : Nat) {b : Nat} {l : List Fr} {w : World} {q s : Int} {k : Bool} (h : Mp w b l) (hk : ∀ x ∈ l, okK x) (hin : InK v a) (hf : found (findK l v a) = (q, s, k))
    (c1 : decide ((v : Int) < 1) = false) (c2 : decide (4094 < (v : Int)) = false) (hm : Mc.mayB a = true) (hg : Mc.groupB a = true) :
    Calls Try.prog 19 #[tbV room age (some b), keyV v a, .int .i64 p] w fun e w' => e = .returned (.int .i64 3) ∧ Below w.heap.size w w' := by
  have h2 := (h.alloc (.cells (tbC room age (some b)) 26)).alloc (.cells #[.int .u16 (v : Int), .int .u64 (a : Int)] 53)
  have hl := Lib.hid (h2.look hk hin hf)
  have HM := Lib.hid hm
  have HG := Lib.hid hg
  have HA := Lib.hid hin.2
  clear h h2 hk hf hin hm hg
  go_enter Try.func19, Try.ntmps19
  go_wp2_with (first | (at_lookup; refine wpList_look _ rfl _ _ _ rfl b _ _ rfl rfl hl.out ?_) | (go_at_call 39; refine (Mc.may_b _ a _ HM.out).mono ?_; rintro e w' ⟨rfl, rfl⟩) | (go_at_call 32; refine (Mc.group_b _ a _ HG.out HA.out).mono ?_; rintro e w' ⟨rfl, rfl⟩))
  go_ret
  exact ⟨rfl, below_three w _ _ _⟩
set_option maxRecDepth 100000 in
set_option maxHeartbeats 2000000 in
theorem wrong_p1 (room age p : Int) (v a : Nat) {b : Nat} {l : List Fr} {w : World} {q s : Int} {k : Bool} (h : Mp w b l) (hk : ∀ x ∈ l, okK x) (hin : InK v a) (hf : found (findK l v a) = (q, s, k))
    (c1 : decide ((v : Int) < 1) = false) (c2 : decide (4094 < (v : Int)) = false) (hm : Mc.mayB a = true) (hg : Mc.groupB a = false) (d1 : decide (p < 0) = true) :
    Calls Try.prog 19 #[tbV room age (some b), keyV v a, .int .i64 p] w fun e w' => e = .returned (.int .i64 11) ∧ Below w.heap.size w w' := by
  have h2 := (h.alloc (.cells (tbC room age (some b)) 26)).alloc (.cells #[.int .u16 (v : Int), .int .u64 (a : Int)] 53)
  have hl := Lib.hid (h2.look hk hin hf)
  have HM := Lib.hid hm
  have HG := Lib.hid hg
  have HA := Lib.hid hin.2
  clear h h2 hk hf hin hm hg
  go_enter Try.func19, Try.ntmps19
  go_wp2_with (first | (at_lookup; refine wpList_look _ rfl _ _ _ rfl b _ _ rfl rfl hl.out ?_) | (go_at_call 39; refine (Mc.may_b _ a _ HM.out).mono ?_; rintro e w' ⟨rfl, rfl⟩) | (go_at_call 32; refine (Mc.group_b _ a _ HG.out HA.out).mono ?_; rintro e w' ⟨rfl, rfl⟩))
  go_ret
  exact ⟨rfl, below_three w _ _ _⟩
set_option maxRecDepth 100000 in
set_option maxHeartbeats 2000000 in
theorem wrong_p2 (room age p : Int) (v a : Nat) {b : Nat} {l : List Fr} {w : World} {q s : Int} {k : Bool} (h : Mp w b l) (hk : ∀ x ∈ l, okK x) (hin : InK v a) (hf : found (findK l v a) = (q, s, k))
    (c1 : decide ((v : Int) < 1) = false) (c2 : decide (4094 < (v : Int)) = false) (hm : Mc.mayB a = true) (hg : Mc.groupB a = false) (d1 : decide (p < 0) = false) (d2 : decide (2 < p) = true) :
    Calls Try.prog 19 #[tbV room age (some b), keyV v a, .int .i64 p] w fun e w' => e = .returned (.int .i64 11) ∧ Below w.heap.size w w' := by
  have h2 := (h.alloc (.cells (tbC room age (some b)) 26)).alloc (.cells #[.int .u16 (v : Int), .int .u64 (a : Int)] 53)
  have hl := Lib.hid (h2.look hk hin hf)
  have HM := Lib.hid hm
  have HG := Lib.hid hg
  have HA := Lib.hid hin.2
  clear h h2 hk hf hin hm hg
  go_enter Try.func19, Try.ntmps19
  go_wp2_with (first | (at_lookup; refine wpList_look _ rfl _ _ _ rfl b _ _ rfl rfl hl.out ?_) | (go_at_call 39; refine (Mc.may_b _ a _ HM.out).mono ?_; rintro e w' ⟨rfl, rfl⟩) | (go_at_call 32; refine (Mc.group_b _ a _ HG.out HA.out).mono ?_; rintro e w' ⟨rfl, rfl⟩))
  go_ret
  exact ⟨rfl, below_three w _ _ _⟩
set_option maxRecDepth 100000 in
set_option maxHeartbeats 2000000 in
theorem wrong_u (room age p : Int) (v a : Nat) {b : Nat} {l : List Fr} {w : World} {q s : Int} (h : Mp w b l) (hk : ∀ x ∈ l, okK x) (hin : InK v a) (hf : found (findK l v a) = (q, s, false))
    (c1 : decide ((v : Int) < 1) = false) (c2 : decide (4094 < (v : Int)) = false) (hm : Mc.mayB a = true) (hg : Mc.groupB a = false) (d1 : decide (p < 0) = false) (d2 : decide (2 < p) = false) (hd : decide (room ≤ (l.length : Int)) = true) :
    Calls Try.prog 19 #[tbV room age (some b), keyV v a, .int .i64 p] w fun e w' => e = .returned (.int .i64 9) ∧ Below w.heap.size w w' := by
  have h2 := (h.alloc (.cells (tbC room age (some b)) 26)).alloc (.cells #[.int .u16 (v : Int), .int .u64 (a : Int)] 53)
  have hl := Lib.hid (h2.look hk hin hf)
  have hn := (h2.alloc (.cells #[.int .i64 q, .int .i64 s] 55)).len
  have HM := Lib.hid hm
  have HG := Lib.hid hg
  have HA := Lib.hid hin.2
  clear h h2 hk hf hin hm hg
  go_enter Try.func19, Try.ntmps19
  go_wp2_with (first | (at_lookup; refine wpList_look _ rfl _ _ _ rfl b _ _ rfl rfl hl.out ?_) | (go_at_call 39; refine (Mc.may_b _ a _ HM.out).mono ?_; rintro e w' ⟨rfl, rfl⟩) | (go_at_call 32; refine (Mc.group_b _ a _ HG.out HA.out).mono ?_; rintro e w' ⟨rfl, rfl⟩))
  go_ret
  exact ⟨rfl, below_three w _ _ _⟩
set_option maxRecDepth 100000 in
set_option maxHeartbeats 2000000 in
theorem wrong_k (room age p : Int) (v a : Nat) {b : Nat} {l : List Fr} {w : World} {q s : Int} (h : Mp w b l) (hk : ∀ x ∈ l, okK x) (hin : InK v a) (hf : found (findK l v a) = (q, s, true))
    (c1 : decide ((v : Int) < 1) = false) (c2 : decide (4094 < (v : Int)) = false) (hm : Mc.mayB a = true) (hg : Mc.groupB a = false) (d1 : decide (p < 0) = false) (d2 : decide (2 < p) = false) :
    Calls Try.prog 19 #[tbV room age (some b), keyV v a, .int .i64 p] w fun e w' => e = .returned (.int .i64 0) ∧ Below w.heap.size w w' := by
  have h2 := (h.alloc (.cells (tbC room age (some b)) 26)).alloc (.cells #[.int .u16 (v : Int), .int .u64 (a : Int)] 53)
  have hl := Lib.hid (h2.look hk hin hf)
  have HM := Lib.hid hm
  have HG := Lib.hid hg
  have HA := Lib.hid hin.2
  clear h h2 hk hf hin hm hg
  go_enter Try.func19, Try.ntmps19
  go_wp2_with (first | (at_lookup; refine wpList_look _ rfl _ _ _ rfl b _ _ rfl rfl hl.out ?_) | (go_at_call 39; refine (Mc.may_b _ a _ HM.out).mono ?_; rintro e w' ⟨rfl, rfl⟩) | (go_at_call 32; refine (Mc.group_b _ a _ HG.out HA.out).mono ?_; rintro e w' ⟨rfl, rfl⟩))
  go_ret
  exact ⟨rfl, below_three w _ _ _⟩
set_option maxRecDepth 100000 in
set_option maxHeartbeats 2000000 in
theorem wrong_n (room age p : Int) (v a : Nat) {b : Nat} {l : List Fr} {w : World} {q s : Int} (h : Mp w b l) (hk : ∀ x ∈ l, okK x) (hin : InK v a) (hf : found (findK l v a) = (q, s, false))
    (c1 : decide ((v : Int) < 1) = false) (c2 : decide (4094 < (v : Int)) = false) (hm : Mc.mayB a = true) (hg : Mc.groupB a = false) (d1 : decide (p < 0) = false) (d2 : decide (2 < p) = false) (hd : decide (room ≤ (l.length : Int)) = false) :
    Calls Try.prog 19 #[tbV room age (some b), keyV v a, .int .i64 p] w fun e w' => e = .returned (.int .i64 0) ∧ Below w.heap.size w w' := by
  have h2 := (h.alloc (.cells (tbC room age (some b)) 26)).alloc (.cells #[.int .u16 (v : Int), .int .u64 (a : Int)] 53)
  have hl := Lib.hid (h2.look hk hin hf)
  have hn := (h2.alloc (.cells #[.int .i64 q, .int .i64 s] 55)).len
  have HM := Lib.hid hm
  have HG := Lib.hid hg
  have HA := Lib.hid hin.2
  clear h h2 hk hf hin hm hg
  go_enter Try.func19, Try.ntmps19
  go_wp2_with (first | (at_lookup; refine wpList_look _ rfl _ _ _ rfl b _ _ rfl rfl hl.out ?_) | (go_at_call 39; refine (Mc.may_b _ a _ HM.out).mono ?_; rintro e w' ⟨rfl, rfl⟩) | (go_at_call 32; refine (Mc.group_b _ a _ HG.out HA.out).mono ?_; rintro e w' ⟨rfl, rfl⟩))
  go_ret
  exact ⟨rfl, below_three w _ _ _⟩
/-- why a row can't be learned: 0, if it can -/
def lrnE (room : Int) (l : List Fr) (v a : Nat) (p : Int) : Nat :=
  if v = 0 ∨ 4094 < v then 4 else if Mc.mayB a = false ∨ Mc.groupB a = true then 3 else if p < 0 ∨ 2 < p then 11 else if findK l v a = none ∧ room ≤ (l.length : Int) then 9 else 0
theorem wrong_any {room p : Int} {v a c : Nat} {b : Nat} {l : List Fr} {w : World} (age : Int) (h : Mp w b l) (hk : ∀ x ∈ l, okK x) (hin : InK v a) (hc : lrnE room l v a p = c) :
    Calls Try.prog 19 #[tbV room age (some b), keyV v a, .int .i64 p] w fun e w' => e = .returned (.int .i64 (c : Int)) ∧ Below w.heap.size w w' := by
  subst hc
  have hf : found (findK l v a) = (_, _, _) := rfl
  by_cases c1 : v < 1
  · have : lrnE room l v a p = 4 := by unfold lrnE; rw [if_pos (by omega)]
    rw [this]; exact wrong_r1 room age p v a h hk hin hf (decide_eq_true (by omega))
  have c1' : decide ((v : Int) < 1) = false := decide_eq_false (by omega)
  by_cases c2 : 4094 < v
  · have : lrnE room l v a p = 4 := by unfold lrnE; rw [if_pos (by omega)]
    rw [this]; exact wrong_r2 room age p v a h hk hin hf c1' (decide_eq_true (by omega))
  have c2' : decide (4094 < (v : Int)) = false := decide_eq_false (by omega)
  have e1 : lrnE room l v a p = if Mc.mayB a = false ∨ Mc.groupB a = true then 3 else if p < 0 ∨ 2 < p then 11 else if findK l v a = none ∧ room ≤ (l.length : Int) then 9 else 0 := by unfold lrnE; rw [if_neg (by omega)]
  rw [e1]
  cases hm : Mc.mayB a
  · rw [if_pos (.inl rfl)]; exact wrong_f1 room age p v a h hk hin hf c1' c2' hm
  cases hg : Mc.groupB a
  rotate_left
  · rw [if_pos (.inr rfl)]; exact wrong_f2 room age p v a h hk hin hf c1' c2' hm hg
  rw [if_neg (by simp)]
  by_cases d1 : p < 0
  · rw [if_pos (.inl d1)]; exact wrong_p1 room age p v a h hk hin hf c1' c2' hm hg (decide_eq_true d1)
  by_cases d2 : 2 < p
  · rw [if_pos (.inr d2)]; exact wrong_p2 room age p v a h hk hin hf c1' c2' hm hg (decide_eq_false d1) (decide_eq_true d2)
  rw [if_neg (by omega)]
  cases ho : findK l v a with
  | some x =>
    rw [if_neg (by simp)]
    exact wrong_k room age p v a h hk hin (by rw [ho]; rfl) c1' c2' hm hg (decide_eq_false d1) (decide_eq_false d2)
  | none =>
    by_cases hd : room ≤ (l.length : Int)
    · rw [if_pos ⟨rfl, hd⟩]; exact wrong_u room age p v a h hk hin (by rw [ho]; rfl) c1' c2' hm hg (decide_eq_false d1) (decide_eq_false d2) (decide_eq_true hd)
    · rw [if_neg (fun k => hd k.2)]; exact wrong_n room age p v a h hk hin (by rw [ho]; rfl) c1' c2' hm hg (decide_eq_false d1) (decide_eq_false d2) (decide_eq_false hd)
end Go.Proofs.Ytljkodfdiebfiaa.Fd
