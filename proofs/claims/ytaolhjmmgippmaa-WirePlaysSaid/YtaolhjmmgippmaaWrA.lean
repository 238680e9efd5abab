/-
  Wires: a slice of texts as it reads, cut and appended to; New, Up, Len, from, with, Set of the program; Set of the document.
-/
import Derived.Test.YtaolhjmmgippmaaGen
import Derived.Test.YtaolhjmmgippmaaRgK
namespace Go.Proofs.Ytaolhjmmgippmaa.Wr
open Go.RowKit Go.Proofs.Ytaolhjmmgippmaa.Mm Go.Proofs.Ytaolhjmmgippmaa.Tg
set_option linter.unusedVariables false
set_option linter.unusedSimpArgs false

/-- a wire as cells, as a value; the document's has the same shape -/
abbrev wrC (r : Int) (u : Bool) (A : Option Addr) (n c : Nat) : Array Value := #[.int .i64 r, .bool u, .slice A n c]
abbrev wrV (r : Int) (u : Bool) (A : Option Addr) (n c : Nat) : Value := .agg (wrC r u A n c)
abbrev zeroW : Array Value := wrC 0 false none 0 0
def strs (L : List ByteArray) : List Value := L.map Value.string
theorem length_strs (L : List ByteArray) : (strs L).length = L.length := by simp [strs]
theorem get_strs (L : List ByteArray) (i : Nat) (h : i < L.length) : (strs L)[i]? = some (.string L[i]) := by simp [strs, h]
theorem one_strs (L : List ByteArray) : ∀ u ∈ strs L, u.oneCell' = true := by
  intro u hu
  obtain ⟨s, _, rfl⟩ := List.mem_map.1 hu
  rfl
/-- a slice of texts that reads as L -/
structure Sl (w : World) (A : Option Addr) (n c : Nat) (L : List ByteArray) : Prop where
  rd : Rd w w.heap.size A (strs L)
  len : L.length = n
  cap : n ≤ c
  max : c ≤ maxLen
  nil : A = none → c = 0
theorem Sl.below {w w' : World} {A : Option Addr} {n c : Nat} {L : List ByteArray} (h : Sl w A n c L) (hb : Below w.heap.size w w') : Sl w' A n c L := ⟨(h.rd.below hb).more hb.size, h.len, h.cap, h.max, h.nil⟩
theorem Sl.noneS (w : World) : Sl w none 0 0 [] := ⟨Rd.none _ _ _, rfl, Nat.le_refl _, Nat.zero_le _, fun _ => rfl⟩
theorem Sl.own {w : World} {base : Nat} {e : TypeId} {v : Value} {n : Nat} {L : List ByteArray} (h : w.ownsRow base e 1 v n (strs L)) : ∃ A c, v = .slice A n c ∧ Sl w A n c L := by
  have hl : L.length = n := by have := h.1; rw [length_strs] at this; omega
  rcases h.2 with ⟨rfl, rfl⟩ | ⟨g, cap, cur, rfl, _, _, hc, hm, _⟩
  · obtain rfl : L = [] := List.eq_nil_of_length_eq_zero hl
    exact ⟨_, _, rfl, Sl.noneS w⟩
  · exact ⟨_, _, rfl, Rd.of_own h, hl, hc, hm, fun e => by cases e⟩
/-- a text of it -/
theorem Sl.at {w : World} {A : Option Addr} {n c : Nat} {L : List ByteArray} (h : Sl w A n c L) {i : Nat} (hi : i < L.length) : ∃ ad : Addr, A = some ad ∧ ad.block < w.heap.size ∧ w.cell? (ad.add (i * 1)) = some (.string L[i]) := by
  obtain ⟨ad, e1, e2, e3⟩ := h.rd (by rw [length_strs]; omega)
  refine ⟨ad, e1, e2, ?_⟩
  rw [Nat.mul_one]
  exact e3 _ _ (get_strs L i hi)
theorem Rd.drop {w : World} {B : Nat} {A : Option Addr} {xs : List Value} (h : Rd w B A xs) (k : Nat) : Rd w B (A.map (·.add k)) (xs.drop k) := fun hn => by
  rw [List.length_drop] at hn
  obtain ⟨ad, rfl, hb, hc⟩ := h (by omega)
  refine ⟨ad.add k, rfl, by rw [block_add]; exact hb, fun j u hu => ?_⟩
  rw [add_add]
  exact hc _ _ (by rw [← hu, List.getElem?_drop])
/-- cut off from k on: all that is left, its end its cap -/
theorem Sl.cut {w : World} {A : Option Addr} {n c : Nat} {L : List ByteArray} (h : Sl w A n c L) {k : Nat} (hk : k ≤ n) (m : Nat) (hm : n ≤ m) (hmc : m ≤ c) : Sl w (if m = k then A else A.map (fun x => x.add k)) (n - k) (m - k) (L.drop k) := by
  have hmx := h.max
  by_cases he : m = k
  · rw [if_pos he]
    have hn : n = k := by omega
    refine ⟨?_, by rw [List.length_drop, h.len], by omega, by omega, fun e => by omega⟩
    rw [List.drop_eq_nil_of_le (by rw [h.len]; omega)]
    exact Rd.none _ _ _
  · rw [if_neg he]
    refine ⟨?_, by rw [List.length_drop, h.len], by omega, by omega, fun e => ?_⟩
    · have := Rd.drop h.rd k
      rwa [strs, ← List.map_drop] at this
    · cases A with
      | none => have := h.nil rfl; omega
      | some a => cases e
section
variable {P : Program} {w : World}
/-- what is appended reads as L; what it is appended to is owned -/
theorem run_append_src (base : Nat) (t ty e : TypeId) (i : TypeInfo) (z : Value) (bytes : Nat) (ht : P.underlying t = some (.slice e)) (hi : P.info? e = some i) (hz : i.zero = some z)
    (hsize : i.size = 1) (hby : i.bytes = bytes) (hzs : z.cells.size = 1)
    (v : Value) (n : Nat) (xs : List ByteArray) (hown : w.ownsRow base e 1 v n (strs xs)) (A : Option Addr) (m c : Nat) (L : List ByteArray) (hS : Sl w A m c L)
    (h63 : n + m ≤ maxLen) (hbytes : (n + m) * bytes ≤ 140737488355328) (hbase : base ≤ w.heap.size) :
    ∃ v' w', (Builtin.append_ #[t, t] ty #[v, .slice A m c]).run P w = .ok v' w' ∧ w'.ownsRow base e 1 v' (n + m) (strs (xs ++ L)) ∧ w.grownBy w' v.ownBlock := by
  have hsp : strs (xs ++ L) = strs xs ++ strs L := by simp [strs]
  rw [hsp]
  cases A with
  | some ad =>
    obtain ⟨v', w', hr, h2, h3, _⟩ := run_append_own (P := P) w base t ty e i z 1 bytes ht hi hz hsize hby hzs (by decide) v n (strs xs) hown ad m c (strs L) (by rw [length_strs, hS.len, Nat.mul_one]) (fun j u hu => by
      have hj := (List.getElem?_eq_some_iff.1 hu).1
      obtain ⟨ad', e1, _, e3⟩ := hS.rd (by omega)
      injection e1 with e1
      subst e1
      exact e3 j u hu) (one_strs L) h63 hbytes hbase
    exact ⟨v', w', hr, h2, h3⟩
  | none =>
    have hc := hS.nil rfl
    have hm : m = 0 := by have := hS.cap; omega
    subst hc hm
    obtain rfl : L = [] := List.eq_nil_of_length_eq_zero hS.len
    exact ⟨v, w, run_append_owned_none (P := P) w base t ty e i 1 ht hi v n (strs xs) hown, by simpa [strs] using hown, World.grownBy.refl _ _⟩
theorem wpList_append_src {ops : Array Oper} {rest : List Oper} {o : Oper} {a : Act} {Q : Exit → Act → World → Prop} (hgd : o.guard = none) (s x : Operand) (t : TypeId)
    (ho : o.op = .call { callee := .builtin .append, args := #[s, x], argTypes := #[t, t] })
    (base : Nat) (e : TypeId) (i : TypeInfo) (z : Value) (bytes : Nat) (ht : P.underlying t = some (.slice e)) (hi : P.info? e = some i) (hz : i.zero = some z)
    (hsize : i.size = 1) (hby : i.bytes = bytes) (hzs : z.cells.size = 1)
    (v : Value) (n : Nat) (xs : List ByteArray) (hs : a.eval s = v) (hown : w.ownsRow base e 1 v n (strs xs)) (A : Option Addr) (m c : Nat) (L : List ByteArray) (hx : a.eval x = .slice A m c) (hS : Sl w A m c L)
    (h63 : n + m ≤ maxLen) (hbytes : (n + m) * bytes ≤ 140737488355328) (hbase : base ≤ w.heap.size)
    (h : ∀ v' w', w'.ownsRow base e 1 v' (n + m) (strs (xs ++ L)) → w.grownBy w' v.ownBlock → wpList P ops Q rest (a.put o.dst v') w') : wpList P ops Q (o :: rest) a w :=
  wpList_plain hgd fun K hK => by
    obtain ⟨v', w', hr, h2, h3⟩ := run_append_src (P := P) base t o.type e i z bytes ht hi hz hsize hby hzs v n xs hown A m c L hS h63 hbytes hbase
    unfold Oper.wp execOp
    simp only [ho, resolve, invoke, builtin, Sem.run_bind, Sem.run_pure, Result.andThen_ok, List.map_toArray, List.map_cons, List.map_nil, hs, hx, hr]
    exact hK _ _ (h v' w' h2 h3)
/-- a text appended to a slice that is full: new memory -/
theorem run_append_full (t ty e : TypeId) (i : TypeInfo) (z : Value) (bytes : Nat) (ht : P.underlying t = some (.slice e)) (hi : P.info? e = some i) (hz : i.zero = some z)
    (hsize : i.size = 1) (hby : i.bytes = bytes) (hzs : z.cells.size = 1) (A : Option Addr) (n : Nat) (L : List ByteArray) (hS : Sl w A n n L) (s : ByteArray) (g c : Nat) (hB : Blk w g e #[.string s])
    (h63 : n + 1 ≤ maxLen) (hbytes : (n + 1) * bytes ≤ 140737488355328) :
    ∃ A' c' w', (Builtin.append_ #[t, t] ty #[.slice A n n, .slice (some ⟨g, 0, none⟩) 1 c]).run P w = .ok (.slice A' (n + 1) c') w' ∧ Sl w' A' (n + 1) c' (L ++ [s]) ∧ Below w.heap.size w w' := by
  have hnews : ∀ j u, ([Value.string s])[j]? = some u → w.cell? ((Addr.mk g 0 none).add j) = some u := World.news_of_block hB
  have hone : ∀ u ∈ [Value.string s], u.oneCell' = true := by intro u hu; obtain rfl := List.mem_singleton.1 hu; rfl
  have hsp : strs L ++ [Value.string s] = strs (L ++ [s]) := by simp [strs]
  cases A with
  | some ad =>
    obtain ⟨v', w', hr, h2, h3⟩ := run_append_arg_grows (P := P) w t ty e i z 1 bytes ht hi hz hsize hby hzs (by decide) ad n n (strs L) (by rw [length_strs, hS.len, Nat.mul_one]) (fun j u hu => by
      have hj := (List.getElem?_eq_some_iff.1 hu).1
      obtain ⟨ad', e1, _, e3⟩ := hS.rd (by omega)
      injection e1 with e1
      subst e1
      exact e3 j u hu) ⟨g, 0, none⟩ 1 c [.string s] rfl hnews (by omega) h63 hbytes
    rw [hsp] at h2
    obtain ⟨A', c', rfl, hS'⟩ := Sl.own h2
    exact ⟨A', c', w', hr, hS', ⟨h3.os, h3.tape, h3.output, h3.size, fun k hk => h3.block k hk (by simp)⟩⟩
  | none =>
    have hc := hS.nil rfl
    subst hc
    obtain rfl : L = [] := List.eq_nil_of_length_eq_zero hS.len
    obtain ⟨v', w', hr, h2, h3, _⟩ := run_append_own (P := P) w w.heap.size t ty e i z 1 bytes ht hi hz hsize hby hzs (by decide) (.slice none 0 0) 0 [] (World.ownsRow_nil w _ e 1) ⟨g, 0, none⟩ 1 c [.string s] rfl hnews hone h63 hbytes (Nat.le_refl _)
    obtain ⟨A', c', rfl, hS'⟩ := Sl.own (L := [s]) h2
    exact ⟨A', c', w', hr, hS', ⟨h3.os, h3.tape, h3.output, h3.size, fun k hk => h3.block k hk (by simp [Value.ownBlock])⟩⟩
theorem step_append_full {ops : Array Oper} {o : Oper} {a : Act} {K : Act → World → Prop} {Q : Exit → Act → World → Prop} {E : Prop} (hgd : o.guard = none) (sl x : Operand) (t : TypeId)
    (ho : o.op = .call { callee := .builtin .append, args := #[sl, x], argTypes := #[t, t] })
    (e : TypeId) (i : TypeInfo) (z : Value) (bytes : Nat) (ht : P.underlying t = some (.slice e)) (hi : P.info? e = some i) (hz : i.zero = some z)
    (hsize : i.size = 1) (hby : i.bytes = bytes) (hzs : z.cells.size = 1) (A : Option Addr) (n : Nat) (L : List ByteArray) (hs : a.eval sl = .slice A n n) (hS : Sl w A n n L) (s : ByteArray) (g c : Nat) (hx : a.eval x = .slice (some ⟨g, 0, none⟩) 1 c) (hB : Blk w g e #[.string s])
    (h63 : n + 1 ≤ maxLen) (hbytes : (n + 1) * bytes ≤ 140737488355328)
    (h : ∀ A' c' w', Sl w' A' (n + 1) c' (L ++ [s]) → Below w.heap.size w w' → K (a.put o.dst (.slice A' (n + 1) c')) w') :
    if Region.wanted o (yielded ops a.tmps) = true then Oper.wp P o a w K Q else E := by
  have hw : Region.wanted o (yielded ops a.tmps) = true := by simp [Region.wanted, hgd]
  rw [if_pos hw]
  obtain ⟨A', c', w', hr, h2, h3⟩ := run_append_full (P := P) t o.type e i z bytes ht hi hz hsize hby hzs A n L hS s g c hB h63 hbytes
  unfold Oper.wp execOp
  simp only [ho, resolve, invoke, builtin, Sem.run_bind, Sem.run_pure, Result.andThen_ok, List.map_toArray, List.map_cons, List.map_nil, hs, hx, hr]
  exact h A' c' w' h2 h3
end
theorem info_s : (Try.prog.info? 9).map (fun i => (i.zero, i.size, i.bytes)) = some (some (.string ByteArray.empty), 1, 16) := by kernel_rfl
theorem info_w : (Try.prog.info? 25).map (·.size) = some 3 := by kernel_rfl
theorem info_rw : (Try.prog.info? 32).map (·.size) = some 3 := by kernel_rfl
theorem below_two (w : World) (a b : Obj) : Below w.heap.size w ((w.alloc a).alloc b) := ((Below.refl w.heap.size w).alloc (Nat.le_refl _) a).alloc (by simp) b
theorem blk_two (w : World) (t s : TypeId) (x y : Array Value) : Blk ((w.alloc (.cells x t)).alloc (.cells y s)) w.heap.size t x := (Blk.fresh w t x).alloc _

theorem len_any (r : Int) (u : Bool) (A : Option Addr) (n c : Nat) (w : World) : Calls Try.prog 7 #[wrV r u A n c] w fun x w' => x = .returned (.int .i64 n) ∧ Below w.heap.size w w' := by
  go_enter Try.func7, Try.ntmps7
  go_upto_region 1 with (fail)
  have HA := Lib.hid (Blk.fresh w 25 (wrC r u A n c))
  have HB := Lib.hid ((Below.refl w.heap.size w).alloc (Nat.le_refl _) (.cells (wrC r u A n c) 25))
  generalize w.alloc (.cells (wrC r u A n c) 25) = w0 at HA HB ⊢
  cases Rw3.row HA.out
  go_wp2
  go_ret
  exact ⟨rfl, HB.out⟩
theorem up_any (r : Int) (u : Bool) (A : Option Addr) (n c : Nat) (w : World) : Calls Try.prog 14 #[wrV r u A n c] w fun x w' => x = .returned (.bool u) ∧ Below w.heap.size w w' := by
  go_enter Try.func14, Try.ntmps14
  go_upto_region 1 with (fail)
  have HA := Lib.hid (Blk.fresh w 25 (wrC r u A n c))
  have HB := Lib.hid ((Below.refl w.heap.size w).alloc (Nat.le_refl _) (.cells (wrC r u A n c) 25))
  generalize w.alloc (.cells (wrC r u A n c) 25) = w0 at HA HB ⊢
  cases Rw3.row HA.out
  go_wp2
  go_ret
  exact ⟨rfl, HB.out⟩
/-- the frames from one on -/
theorem from_any (r : Int) (u : Bool) (A : Option Addr) (n c k : Nat) (L : List ByteArray) (w : World) (hS : Sl w A n c L) (hk : k ≤ n) :
    Calls Try.prog 16 #[wrV r u A n c, .int .i64 k] w fun x w' => ∃ A', x = .returned (.slice A' (n - k) (n - k)) ∧ Sl w' A' (n - k) (n - k) (L.drop k) ∧ Below w.heap.size w w' := by
  have hm := hS.max
  unfold maxLen at hm
  have hc := hS.cap
  have HS := Lib.hid (hS.cut hk n (Nat.le_refl _) hc)
  clear hS
  go_enter Try.func16, Try.ntmps16
  go_upto_region 1 with (fail)
  have HA := Lib.hid (Blk.fresh w 25 (wrC r u A n c))
  have HB := Lib.hid ((Below.refl w.heap.size w).alloc (Nat.le_refl _) (.cells (wrC r u A n c) 25))
  generalize w.alloc (.cells (wrC r u A n c) 25) = w0 at HA HB ⊢
  cases Rw3.row HA.out
  have b0 : (0 : Int) ≤ (k : Int) := by omega
  have b1 : (k : Int) ≤ (n : Int) := by omega
  have b2 : (n : Int) ≤ (n : Int) := by omega
  have b3 : (n : Int) ≤ (c : Int) := by omega
  go_wp2_with fail
  case inl =>
    rw [if_pos h] at HS
    subst h
    simp only [Nat.sub_self] at HS
    go_ret
    exact ⟨A, rfl, HS.out.below HB.out, HB.out⟩
  case inr =>
    rw [if_neg h] at HS
    go_ret
    exact ⟨_, rfl, HS.out.below HB.out, HB.out⟩
/-- a wire that has other frames -/
theorem with_any (r : Int) (u : Bool) (A : Option Addr) (n c : Nat) (A' : Option Addr) (n' c' : Nat) (w : World) : Calls Try.prog 15 #[wrV r u A n c, .slice A' n' c'] w fun x w' => x = .returned (wrV r u A' n' c') ∧ Below w.heap.size w w' := by
  go_enter Try.func15, Try.ntmps15
  go_upto_region 1 with (fail)
  have HA := Lib.hid (blk_two w 25 25 (wrC r u A n c) zeroW)
  have HR := Lib.hid (fresh_second w (.cells (wrC r u A n c) 25) 25 zeroW)
  have HB := Lib.hid (below_two w (.cells (wrC r u A n c) 25) (.cells zeroW 25))
  generalize (w.alloc (.cells (wrC r u A n c) 25)).alloc (.cells zeroW 25) = w0 at HA HR HB ⊢
  cases Rw3.row HA.out
  cases Rw3.row HR.out
  go_wp2
  (try simp only [Exit.inBlock, Exit.then]); refine bodyPost_ret (results_cell_row rfl _ _ (w.heap.size + 1) 25 _ (0, 0) _ rfl (Rw3.blk_set HR.out _ _ _) Try.underlying25 rfl info_w) rfl ?_
  exact ⟨rfl, Rw3.below_set HB.out (by omega) _ _ _⟩
/-- up, or down, the program's: as it is so already, or without frames -/
theorem set_same (r : Int) (u : Bool) (A : Option Addr) (n c : Nat) (w : World) : Calls Try.prog 12 #[wrV r u A n c, .bool u] w fun x w' => x = .returned (wrV r u A n c) ∧ Below w.heap.size w w' := by
  have e : (u == u) = true := by simp
  go_enter Try.func12, Try.ntmps12
  go_upto_region 1 with (fail)
  have HA := Lib.hid (blk_two w 25 25 (wrC r u A n c) zeroW)
  have HR := Lib.hid (fresh_second w (.cells (wrC r u A n c) 25) 25 zeroW)
  have HB := Lib.hid (below_two w (.cells (wrC r u A n c) 25) (.cells zeroW 25))
  generalize (w.alloc (.cells (wrC r u A n c) 25)).alloc (.cells zeroW 25) = w0 at HA HR HB ⊢
  cases Rw3.row HA.out
  cases Rw3.row HR.out
  go_wp2
  (try simp only [Exit.inBlock, Exit.then]); refine bodyPost_ret (results_cell_row rfl _ _ (w.heap.size + 1) 25 _ (0, 0) _ rfl (Rw3.blk_set HR.out _ _ _) Try.underlying25 rfl info_w) rfl ?_
  exact ⟨rfl, Rw3.below_set HB.out (by omega) _ _ _⟩
theorem set_other (r : Int) (u v : Bool) (A : Option Addr) (n c : Nat) (w : World) (h : (v == u) = false) : Calls Try.prog 12 #[wrV r u A n c, .bool v] w fun x w' => x = .returned (wrV r v none 0 0) ∧ Below w.heap.size w w' := by
  go_enter Try.func12, Try.ntmps12
  go_upto_region 1 with (fail)
  have HA := Lib.hid (blk_two w 25 25 (wrC r u A n c) zeroW)
  have HR := Lib.hid (fresh_second w (.cells (wrC r u A n c) 25) 25 zeroW)
  have HB := Lib.hid (below_two w (.cells (wrC r u A n c) 25) (.cells zeroW 25))
  generalize (w.alloc (.cells (wrC r u A n c) 25)).alloc (.cells zeroW 25) = w0 at HA HR HB ⊢
  cases Rw3.row HA.out
  cases Rw3.row HR.out
  go_wp2
  (try simp only [Exit.inBlock, Exit.then]); refine bodyPost_ret (results_cell_row rfl _ _ (w.heap.size + 1) 25 _ (0, 0) _ rfl (Rw3.blk_set HR.out _ _ _) Try.underlying25 rfl info_w) rfl ?_
  exact ⟨rfl, Rw3.below_set HB.out (by omega) _ _ _⟩
/-- the document's: up, with the frames that there are -/
theorem rset_up (r : Int) (d : Bool) (A : Option Addr) (n c : Nat) (w : World) : Calls Try.prog 13 #[wrV r d A n c, .bool true] w fun x w' => x = .returned (wrV r false A n c) ∧ Below w.heap.size w w' := by
  go_enter Try.func13, Try.ntmps13
  go_upto_region 1 with (fail)
  have HA := Lib.hid (blk_two w 32 32 (wrC r d A n c) zeroW)
  have HR := Lib.hid (fresh_second w (.cells (wrC r d A n c) 32) 32 zeroW)
  have HB := Lib.hid (below_two w (.cells (wrC r d A n c) 32) (.cells zeroW 32))
  generalize (w.alloc (.cells (wrC r d A n c) 32)).alloc (.cells zeroW 32) = w0 at HA HR HB ⊢
  cases Rw3.row HA.out
  cases Rw3.row HR.out
  go_wp2
  (try simp only [Exit.inBlock, Exit.then]); refine bodyPost_ret (results_cell_row rfl _ _ (w.heap.size + 1) 32 _ (0, 0) _ rfl (Rw3.blk_set (HR.out.far (p := ⟨w.heap.size, 1, none⟩) (by simp) _) _ _ _) Try.underlying32 rfl info_rw) rfl ?_
  exact ⟨rfl, Rw3.below_set (HB.out.setCell (p := ⟨w.heap.size, 1, none⟩) (Nat.le_refl _) _) (by omega) _ _ _⟩
theorem rset_down (r : Int) (d : Bool) (A : Option Addr) (n c : Nat) (w : World) : Calls Try.prog 13 #[wrV r d A n c, .bool false] w fun x w' => x = .returned (wrV r true none 0 0) ∧ Below w.heap.size w w' := by
  go_enter Try.func13, Try.ntmps13
  go_upto_region 1 with (fail)
  have HA := Lib.hid (blk_two w 32 32 (wrC r d A n c) zeroW)
  have HR := Lib.hid (fresh_second w (.cells (wrC r d A n c) 32) 32 zeroW)
  have HB := Lib.hid (below_two w (.cells (wrC r d A n c) 32) (.cells zeroW 32))
  generalize (w.alloc (.cells (wrC r d A n c) 32)).alloc (.cells zeroW 32) = w0 at HA HR HB ⊢
  cases Rw3.row HA.out
  cases Rw3.row HR.out
  go_wp2
  (try simp only [Exit.inBlock, Exit.then]); refine bodyPost_ret (results_cell_row rfl _ _ (w.heap.size + 1) 32 _ (0, 0) _ rfl (Rw3.blk_set ((HR.out.far (p := ⟨w.heap.size, 1, none⟩) (by simp) _).far (p := ⟨w.heap.size, 2, none⟩) (by simp) _) _ _ _) Try.underlying32 rfl info_rw) rfl ?_
  exact ⟨rfl, Rw3.below_set ((HB.out.setCell (p := ⟨w.heap.size, 1, none⟩) (Nat.le_refl _) _).setCell (p := ⟨w.heap.size, 2, none⟩) (Nat.le_refl _) _) (by omega) _ _ _⟩
/-- New -/
theorem new_ok (r : Int) (w : World) (h0 : 1 ≤ r) (h1 : r ≤ 256) : Calls Try.prog 5 #[.int .i64 r] w fun x w' => x = .returned (.tuple #[wrV r true none 0 0, .int .i64 0]) ∧ Below w.heap.size w w' := by
  have d0 : decide (r < 1) = false := decide_eq_false (by omega)
  have d1 : decide (256 < r) = false := decide_eq_false (by omega)
  clear h0 h1
  go_enter Try.func5, Try.ntmps5
  go_upto_region 1 with (fail)
  have HR := Lib.hid (Blk.fresh w 25 zeroW)
  have HB := Lib.hid ((Below.refl w.heap.size w).alloc (Nat.le_refl _) (.cells zeroW 25))
  generalize w.alloc (.cells zeroW 25) = w0 at HR HB ⊢
  cases Rw3.row HR.out
  go_wp2
  (try simp only [Exit.inBlock, Exit.then]); refine bodyPost_ret (results_row2 rfl _ _ w.heap.size 25 _ (0, 0) _ rfl (Rw3.blk_set HR.out _ _ _) Try.underlying25 rfl info_w) rfl ?_
  exact ⟨rfl, Rw3.below_set HB.out (Nat.le_refl _) _ _ _⟩
theorem new_bad (r : Int) (w : World) (h : r < 1 ∨ 256 < r) : Calls Try.prog 5 #[.int .i64 r] w fun x w' => x = .returned (.tuple #[wrV 0 false none 0 0, .int .i64 4]) ∧ Below w.heap.size w w' := by
  by_cases h0 : r < 1
  · have d0 : decide (r < 1) = true := decide_eq_true h0
    clear h h0
    go_enter Try.func5, Try.ntmps5
    go_upto_region 1 with (fail)
    have HR := Lib.hid (Blk.fresh w 25 zeroW)
    have HB := Lib.hid ((Below.refl w.heap.size w).alloc (Nat.le_refl _) (.cells zeroW 25))
    generalize w.alloc (.cells zeroW 25) = w0 at HR HB ⊢
    cases Rw3.row HR.out
    go_wp2
    (try simp only [Exit.inBlock, Exit.then]); refine bodyPost_ret (results_row2 rfl _ _ w.heap.size 25 _ (0, 0) _ rfl (Rw3.blk_set HR.out _ _ _) Try.underlying25 rfl info_w) rfl ?_
    exact ⟨rfl, Rw3.below_set HB.out (Nat.le_refl _) _ _ _⟩
  · have d0 : decide (r < 1) = false := decide_eq_false h0
    have d1 : decide (256 < r) = true := decide_eq_true (by omega)
    clear h h0
    go_enter Try.func5, Try.ntmps5
    go_upto_region 1 with (fail)
    have HR := Lib.hid (Blk.fresh w 25 zeroW)
    have HB := Lib.hid ((Below.refl w.heap.size w).alloc (Nat.le_refl _) (.cells zeroW 25))
    generalize w.alloc (.cells zeroW 25) = w0 at HR HB ⊢
    cases Rw3.row HR.out
    go_wp2
    (try simp only [Exit.inBlock, Exit.then]); refine bodyPost_ret (results_row2 rfl _ _ w.heap.size 25 _ (0, 0) _ rfl (Rw3.blk_set HR.out _ _ _) Try.underlying25 rfl info_w) rfl ?_
    exact ⟨rfl, Rw3.below_set HB.out (Nat.le_refl _) _ _ _⟩
end Go.Proofs.Ytaolhjmmgippmaa.Wr
