/-
  Plain lemmas on the lines' messages: their bytes, and back; a group's text.
  Contracts of ccm's small functions: what is wrong, a group's text; the document's.
  Contract of ccm's Close.
-/
import Derived.Test.YtoiggajjbjcabaaRapA
import Derived.Test.YtoiggajjbjcabaaRgK
import Derived.Test.YtoiggajjbjcabaaOamB
import Derived.Laws.CopyRow
namespace Go.Proofs.Ytoiggajjbjcabaa.Cc
open Go.Proofs.Ytoiggajjbjcabaa.Bt Go.Proofs.Ytoiggajjbjcabaa.Fl Go.Proofs.Ytoiggajjbjcabaa.Tg Go.Proofs.Ytoiggajjbjcabaa.Oa Go.Proofs.Ytoiggajjbjcabaa.Rp

structure Cm where
  lost : Bool
  period : Nat
  count : Nat
  fin : Nat
  group : List UInt8
def zeroC : Cm := ⟨false, 0, 0, 0, []⟩
def flagsC (m : Cm) : Nat := m.period + bitN m.lost 128
def content (m : Cm) : List UInt8 := putB m.count 4 ++ (putB m.fin 2 ++ (m.group ++ noughts 16))
def badC (m : Cm) (level : Nat) : Prop := 7 < level ∨ m.period = 0 ∨ 7 < m.period ∨ m.fin = 0 ∨ 8191 < m.fin
instance (m : Cm) (l : Nat) : Decidable (badC m l) := by unfold badC; exact inferInstance
/-- what Close answers -/
def closeC (m : Cm) (level : Nat) : List UInt8 × Nat := if badC m level then ([], 4) else if m.group.length ≠ 48 then ([], 3) else closeO ⟨level, 0, 1, flagsC m, 70⟩ (content m)
/-- the message that stands in a head and a content -/
def msgOf (h : Hd) (c : List UInt8) : Cm := ⟨decide (128 ≤ h.flags), h.flags % 8, getN c 0 4, getN c 4 2, (c.drop 6).take 48⟩
def stray (h : Hd) (c : List UInt8) : Prop := 8192 ≤ getN c 4 2 ∨ h.flags / 8 % 16 ≠ 0 ∨ c.drop 54 ≠ noughts 16
instance (h : Hd) (c : List UInt8) : Decidable (stray h c) := by unfold stray; exact inferInstance
def openA (h : Hd) (c : List UInt8) (level : Nat) : Cm × Nat :=
  if isO h level 0 1 70 ≠ 0 then (zeroC, isO h level 0 1 70) else if stray h c then (zeroC, 3) else if h.flags % 8 = 0 ∨ getN c 4 2 = 0 then (zeroC, 4) else (msgOf h c, 0)
/-- what Open answers -/
def openC (s : List UInt8) (level : Nat) : Cm × Nat := if (openO s).2.2 ≠ 0 then (zeroC, (openO s).2.2) else openA (openO s).1 (openO s).2.1 level
/-- a group's text -/
def nameC (s : List UInt8) : List UInt8 := s.take 48 ++ noughts (48 - s.length)
theorem length_name (s : List UInt8) : (nameC s).length = 48 := by unfold nameC noughts; simp; omega

theorem closeC_zero {m : Cm} {l : Nat} {b : List UInt8} (h : closeC m l = (b, 0)) : (l ≤ 7 ∧ 1 ≤ m.period ∧ m.period ≤ 7 ∧ 1 ≤ m.fin ∧ m.fin ≤ 8191) ∧ m.group.length = 48 ∧ closeO ⟨l, 0, 1, flagsC m, 70⟩ (content m) = (b, 0) := by
  unfold closeC at h
  split at h
  · simp at h
  rename_i h1
  split at h
  · simp at h
  rename_i h2
  unfold badC at h1
  exact ⟨by omega, by simpa using h2, h⟩
theorem flags_lt {m : Cm} (h : m.period ≤ 7) : flagsC m < 256 := by unfold flagsC bitN; split <;> omega
theorem length_content {m : Cm} (h : m.group.length = 48) : (content m).length = 70 := by
  unfold content noughts
  simp only [List.length_append, length_putB, List.length_replicate, h]
theorem msgOf_content {m : Cm} {l o : Nat} (hp : m.period ≤ 7) (hc : m.count < 4294967296) (he : m.fin ≤ 8191) (hg : m.group.length = 48) :
    msgOf ⟨l, 0, 1, flagsC m, o⟩ (content m) = m ∧ getN (content m) 4 2 = m.fin ∧ flagsC m / 8 % 16 = 0 ∧ flagsC m % 8 = m.period ∧ (content m).drop 54 = noughts 16 := by
  have g0 : getN (content m) 0 4 = m.count := by
    have := getN_putB m.count 4 (by simpa using hc) [] (putB m.fin 2 ++ (m.group ++ noughts 16))
    simpa [content] using this
  have g1 : getN (content m) 4 2 = m.fin := by
    have := getN_putB m.fin 2 (by simp; omega) (putB m.count 4) (m.group ++ noughts 16)
    rw [length_putB] at this
    simpa [content] using this
  have e6 : (content m).drop 6 = m.group ++ noughts 16 := by
    have : content m = (putB m.count 4 ++ putB m.fin 2) ++ (m.group ++ noughts 16) := by simp [content]
    rw [this, List.drop_left' (by simp [length_putB])]
  have g2 : ((content m).drop 6).take 48 = m.group := by rw [e6, List.take_left' hg]
  have g3 : (content m).drop 54 = noughts 16 := by
    rw [show 54 = 6 + 48 from rfl, ← List.drop_drop, e6, List.drop_left' hg]
  have f1 : flagsC m / 8 % 16 = 0 := by unfold flagsC bitN; split <;> omega
  have f2 : flagsC m % 8 = m.period := by unfold flagsC bitN; split <;> omega
  have f3 : decide (128 ≤ flagsC m) = m.lost := by
    unfold flagsC bitN
    cases m.lost <;> simp <;> omega
  refine ⟨?_, g1, f1, f2, g3⟩
  unfold msgOf
  simp only [g0, g1, g2, f2, f3]
theorem small_head {m : Cm} {l : Nat} (hl : l ≤ 7) (hp : m.period ≤ 7) : Small ⟨l, 0, 1, flagsC m, 70⟩ := ⟨by show l < 256; omega, by show 0 < 256; omega, by show 1 < 256; omega, flags_lt hp, by show 70 < 256; omega⟩
/-- P6.2, one way -/
theorem open_closed {m : Cm} {l : Nat} {b : List UInt8} (h : closeC m l = (b, 0)) (hc : m.count < 4294967296) : openC b l = (m, 0) := by
  obtain ⟨⟨hl, hp1, hp, he1, he⟩, hg, hcl⟩ := closeC_zero h
  have ho := Oa.open_closed (small_head hl hp) hcl []
  rw [List.append_nil] at ho
  obtain ⟨e1, e2, e3, e4, e5⟩ := msgOf_content (l := l) (o := 70) hp hc he hg
  unfold openC
  rw [ho, if_neg (by simp)]
  unfold openA
  rw [if_neg (by simp [isO]), if_neg (by unfold stray; rw [e2, e5]; simp only [e3]; simp; omega), if_neg (by rw [e2]; simp only [e4]; omega), e1]
theorem length_closed {m : Cm} {l : Nat} {b : List UInt8} (h : closeC m l = (b, 0)) : b.length = 75 := by
  obtain ⟨_, _, hc⟩ := closeC_zero h
  obtain ⟨_, _, h3, rfl⟩ := closeO_zero hc
  simp only [headB, List.length_append, List.length_cons, List.length_nil, h3]
theorem openC_zero {s : List UInt8} {l : Nat} {m : Cm} (h : openC s l = (m, 0)) : (openO s).2.2 = 0 ∧ isO (openO s).1 l 0 1 70 = 0 ∧ ¬ stray (openO s).1 (openO s).2.1 ∧ ¬ ((openO s).1.flags % 8 = 0 ∨ getN (openO s).2.1 4 2 = 0) ∧ m = msgOf (openO s).1 (openO s).2.1 := by
  unfold openC at h
  split at h
  · rename_i h1
    simp only [Prod.mk.injEq] at h
    exact absurd h.2 h1
  rename_i h1
  unfold openA at h
  split at h
  · rename_i h2
    simp only [Prod.mk.injEq] at h
    exact absurd h.2 h2
  rename_i h2
  split at h
  · simp at h
  rename_i h3
  split at h
  · simp at h
  rename_i h4
  simp only [Prod.mk.injEq, and_true] at h
  exact ⟨by simpa using h1, by simpa using h2, h3, h4, h.symm⟩
theorem openC_err {s : List UInt8} {l : Nat} {m : Cm} {k : Nat} (h : openC s l = (m, k)) (hk : k ≠ 0) : m = zeroC := by
  unfold openC at h
  split at h
  · simp only [Prod.mk.injEq] at h; exact h.1.symm
  unfold openA at h
  split at h
  · simp only [Prod.mk.injEq] at h; exact h.1.symm
  split at h
  · simp only [Prod.mk.injEq] at h; exact h.1.symm
  split at h
  · simp only [Prod.mk.injEq] at h; exact h.1.symm
  · simp only [Prod.mk.injEq] at h; exact absurd h.2.symm hk
theorem openO_small {s : List UInt8} (h : (openO s).2.2 = 0) : (openO s).1 = headOf s := by
  unfold openO at h ⊢
  split at h
  · simp at h
  rename_i h1
  rw [if_neg h1]
  split at h
  · simp at h
  rename_i h2
  rw [if_neg h2]
/-- P6.2, the other way -/
theorem close_opened {s : List UInt8} {l : Nat} {m : Cm} (h : openC s l = (m, 0)) (hl7 : s.length = 75) : closeC m l = (s, 0) := by
  obtain ⟨h0, hi, hst, hz, rfl⟩ := openC_zero h
  obtain ⟨i1, i2, i3, i4⟩ := isO_zero hi
  obtain ⟨hc, hcl⟩ := closeO_opened h0 (by rw [i4]; omega)
  obtain ⟨c1, _, _, _⟩ := closeO_zero hc
  have hf : (openO s).1.flags < 256 := by rw [openO_small h0]; exact UInt8.toNat_lt _
  rw [i4] at hcl
  generalize (openO s).2.1 = c at *
  generalize (openO s).1 = x at *
  obtain ⟨a, b, d, f, o⟩ := x
  simp only at i1 i2 i3 i4 c1 hf hz
  subst i1 i2 i3 i4
  unfold stray at hst
  simp only at hst
  have s1 : getN c 4 2 ≤ 8191 := by omega
  have s2 : f / 8 % 16 = 0 := by omega
  have s3 : c.drop 54 = noughts 16 := by
    by_cases e : c.drop 54 = noughts 16
    · exact e
    · exact absurd (.inr (.inr e)) hst
  have hfl : flagsC (msgOf ⟨a, 0, 1, f, 70⟩ c) = f := by
    unfold flagsC msgOf bitN
    simp only [decide_eq_true_eq]
    split <;> omega
  have hct : content (msgOf ⟨a, 0, 1, f, 70⟩ c) = c := by
    unfold content msgOf
    simp only
    rw [putB_getN c 0 4 (by omega), putB_getN c 4 2 (by omega), ← s3]
    have cut : ∀ a n, (c.drop a).take n ++ c.drop (a + n) = c.drop a := fun a n => by rw [← List.drop_drop, List.take_append_drop]
    rw [cut 6 48, cut 4 2, cut 0 4]
    simp
  have hbad : ¬ badC (msgOf ⟨a, 0, 1, f, 70⟩ c) a := by
    unfold badC msgOf
    simp only
    omega
  have hgl : (msgOf ⟨a, 0, 1, f, 70⟩ c).group.length = 48 := by
    unfold msgOf
    simp only [List.length_take, List.length_drop]
    omega
  unfold closeC
  rw [if_neg hbad, if_neg (by rw [hgl]; simp), hct, hfl, hc]
end Go.Proofs.Ytoiggajjbjcabaa.Cc
namespace Go.Proofs.Ytoiggajjbjcabaa.Cc
open Go.RowKit Go.Proofs.Ytoiggajjbjcabaa.Bt Go.Proofs.Ytoiggajjbjcabaa.Mm Go.Proofs.Ytoiggajjbjcabaa.Fl Go.Proofs.Ytoiggajjbjcabaa.Lw Go.Proofs.Ytoiggajjbjcabaa.Hx Go.Proofs.Ytoiggajjbjcabaa.Mc Go.Proofs.Ytoiggajjbjcabaa.Tg Go.Proofs.Ytoiggajjbjcabaa.Oa Go.Proofs.Ytoiggajjbjcabaa.Rp

/-- a message as a value, and its cells -/
abbrev cmV (b : Bool) (p c e : Nat) (g : ByteArray) : Value := .agg #[.bool b, .int .u8 (p : Int), .int .u32 (c : Int), .int .u16 (e : Int), .string g]
abbrev cmC (b : Bool) (p c e : Nat) (g : ByteArray) : Array Value := #[.bool b, .int .u8 (p : Int), .int .u32 (c : Int), .int .u16 (e : Int), .string g]
theorem lv_any (b : Bool) (w : World) : Calls Try.prog 41 #[.bool b] w fun e w' => e = .returned (.int .u64 (bitN b 1 : Nat)) ∧ w = w' := by
  cases b
  · go_enter Try.func41, Try.ntmps41
    go_wp2
    go_ret
    exact ⟨rfl, rfl⟩
  · go_enter Try.func41, Try.ntmps41
    go_wp2
    go_ret
    exact ⟨rfl, rfl⟩
theorem lt_t {a : Nat} {b : Int} (h : (a : Int) < b) : decide ((a : Int) < b) = true := by simpa using h
theorem lt_f {a : Nat} {b : Int} (h : ¬ (a : Int) < b) : decide ((a : Int) < b) = false := by simpa using h

/-- what is wrong with a message, at a level -/
def wrongC (m : Cm) (l : Nat) : Nat := if badC m l then 4 else if m.group.length ≠ 48 then 3 else 0
theorem wrongC_bad {b : Bool} {p c e l : Nat} {g : List UInt8} (h : 7 < l ∨ p = 0 ∨ 7 < p ∨ e = 0 ∨ 8191 < e) : wrongC ⟨b, p, c, e, g⟩ l = 4 := if_pos h
theorem wrongC_good {b : Bool} {p c e l : Nat} {g : ByteArray} (h : ¬ (7 < l ∨ p = 0 ∨ 7 < p ∨ e = 0 ∨ 8191 < e)) : wrongC ⟨b, p, c, e, g.data.toList⟩ l = if g.size ≠ 48 then 3 else 0 := by
  have h2 : wrongC ⟨b, p, c, e, g.data.toList⟩ l = if g.data.toList.length ≠ 48 then 3 else 0 := if_neg h
  rw [h2, size_list]
set_option maxHeartbeats 1000000 in
theorem wrong_any (b : Bool) (p c e : Nat) (g : ByteArray) (l : Nat) (w : World) :
    Calls Try.prog 40 #[cmV b p c e g, .int .u8 (l : Int)] w fun x w' => x = .returned (.int .i64 (wrongC ⟨b, p, c, e, g.data.toList⟩ l : Nat)) ∧ Below w.heap.size w w' := by
  have HB := Lib.hid ((Below.refl w.heap.size w).alloc (Nat.le_refl _) (.cells (cmC b p c e g) 62))
  by_cases h1 : 7 < l
  · rw [wrongC_bad (.inl h1)]
    have q1 := gt_t (a := l) (b := 7) (by omega)
    clear h1
    go_enter Try.func40, Try.ntmps40
    go_wp2
    go_ret
    exact ⟨rfl, HB.out⟩
  have q1 := gt_f (a := l) (b := 7) (by omega)
  by_cases h2 : p = 0
  · rw [wrongC_bad (.inr (.inl h2))]
    have q2 := lt_t (a := p) (b := 1) (by omega)
    clear h1 h2
    go_enter Try.func40, Try.ntmps40
    go_wp2
    go_ret
    exact ⟨rfl, HB.out⟩
  have q2 := lt_f (a := p) (b := 1) (by omega)
  by_cases h3 : 7 < p
  · rw [wrongC_bad (.inr (.inr (.inl h3)))]
    have q3 := gt_t (a := p) (b := 7) (by omega)
    clear h1 h2 h3
    go_enter Try.func40, Try.ntmps40
    go_wp2
    go_ret
    exact ⟨rfl, HB.out⟩
  have q3 := gt_f (a := p) (b := 7) (by omega)
  by_cases h4 : e = 0
  · rw [wrongC_bad (.inr (.inr (.inr (.inl h4))))]
    have q4 := lt_t (a := e) (b := 1) (by omega)
    clear h1 h2 h3 h4
    go_enter Try.func40, Try.ntmps40
    go_wp2
    go_ret
    exact ⟨rfl, HB.out⟩
  have q4 := lt_f (a := e) (b := 1) (by omega)
  by_cases h5 : 8191 < e
  · rw [wrongC_bad (.inr (.inr (.inr (.inr h5))))]
    have q5 := gt_t (a := e) (b := 8191) (by omega)
    clear h1 h2 h3 h4 h5
    go_enter Try.func40, Try.ntmps40
    go_wp2
    go_ret
    exact ⟨rfl, HB.out⟩
  have q5 := gt_f (a := e) (b := 8191) (by omega)
  rw [wrongC_good (by omega)]
  by_cases h6 : g.size = 48
  · rw [if_neg (by simpa using h6)]
    have q6 : ((g.size : Int) != 48) = false := by rw [h6]; rfl
    clear h1 h2 h3 h4 h5 h6
    go_enter Try.func40, Try.ntmps40
    go_wp2
    go_ret
    exact ⟨rfl, HB.out⟩
  · rw [if_pos h6]
    have q6 : ((g.size : Int) != 48) = true := by simp; omega
    clear h1 h2 h3 h4 h5 h6
    go_enter Try.func40, Try.ntmps40
    go_wp2
    go_ret
    exact ⟨rfl, HB.out⟩
theorem wrong_at {r : Nat} (b : Bool) (p c e : Nat) (g : ByteArray) (l : Nat) (w : World) (h : wrongC ⟨b, p, c, e, g.data.toList⟩ l = r) :
    Calls Try.prog 40 #[cmV b p c e g, .int .u8 (l : Int)] w fun x w' => x = .returned (.int .i64 (r : Int)) ∧ Below w.heap.size w w' := by
  rw [← h]; exact wrong_any b p c e g l w

/-- 'copy(b, s)', s a text of whatever length -/
theorem run_copy_str {P : Program} (w : World) (dT sT ty elem : TypeId) (g n dCap : Nat) (s : ByteArray) (cur : Array Value) (t : TypeId)
    (hu : P.underlying dT = some (.slice elem)) (hs : (P.info? elem).map (·.size) = some 1) (hg : Blk w g t cur) (hn : cur.size = n) :
    (Builtin.copy_ #[dT, sT] ty #[.slice (some ⟨g, 0, none⟩) n dCap, .string s]).run P w =
      .ok (goInt (Nat.min s.size n)) (w.setRow g (byteVals (s.data.toList.take n) ++ cur.toList.drop (Nat.min s.size n)).toArray) := by
  have hone : ∀ v ∈ byteVals (s.data.toList.take n), v.oneCell' = true := by
    intro v hv
    simp only [byteVals, List.mem_map] at hv
    obtain ⟨b, _, rfl⟩ := hv
    rfl
  have hlen : (byteVals (s.data.toList.take n)).length = Nat.min s.size n := by
    simp only [byteVals, List.length_map, List.length_take, size_list]
    exact Nat.min_comm n s.size
  have hle : Nat.min s.size n ≤ cur.size := by rw [hn]; exact Nat.min_le_right _ _
  have hst := run_storeCells_at P g 0 t (byteVals (s.data.toList.take n)) 0 cur w hg (by rw [hlen]; omega) hone
  have htk : List.take (Nat.min s.size n) (List.map (fun b : UInt8 => Value.int IntKind.u8 (b.toNat : Int)) s.data.toList) = byteVals (s.data.toList.take n) := by
    unfold byteVals
    rw [← List.map_take]
    rcases Nat.le_total s.size n with h | h
    · rw [show Nat.min s.size n = s.size from Nat.min_eq_left h, List.take_of_length_le (l := s.data.toList) (i := n) (by rw [size_list]; exact h), List.take_of_length_le (by rw [size_list]; exact Nat.le_refl _)]
    · rw [show Nat.min s.size n = n from Nat.min_eq_right h]
  rw [hlen] at hst
  simp only [Nat.add_zero, Nat.zero_add, List.take_zero, List.nil_append] at hst
  cases hq : P.info? elem with
  | none => simp [hq] at hs
  | some i =>
    simp [Builtin.copy_, run_underlying hu, Builtin.lenOf, Builtin.firstCells, sizeOf, typeInfo, hq]
    rw [htk, hst]
    simp [Result.andThen]
theorem wpList_copy_str {P : Program} {w : World} {ops : Array Oper} {rest : List Oper} {o : Oper} {a : Act} {Q : Exit → Act → World → Prop} (hgd : o.guard = none) (d x : Operand) (dT sT : TypeId)
    (ho : o.op = .call { callee := .builtin .copy, args := #[d, x], argTypes := #[dT, sT] }) (elem : TypeId) (hu : P.underlying dT = some (.slice elem)) (hsz : (P.info? elem).map (·.size) = some 1)
    (g n dCap : Nat) (s : ByteArray) (hd : a.eval d = .slice (some ⟨g, 0, none⟩) n dCap) (hx : a.eval x = .string s) (cur : Array Value) (t : TypeId) (hg : Blk w g t cur) (hn : cur.size = n)
    (h : wpList P ops Q rest (a.put o.dst (goInt (Nat.min s.size n))) (w.setRow g (byteVals (s.data.toList.take n) ++ cur.toList.drop (Nat.min s.size n)).toArray)) : wpList P ops Q (o :: rest) a w := by
  refine wpList_plain hgd fun K hK => ?_
  have hrun := run_copy_str (P := P) w dT sT o.type elem g n dCap s cur t hu hsz hg hn
  unfold Oper.wp
  simp [execOp, ho, resolve, invoke, builtin, hd, hx, hrun, Result.andThen]
  exact hK _ _ h
theorem below_row {B g : Nat} {w0 w : World} (hb : Below B w0 w) (hBg : B ≤ g) (cs : Array Value) : Below B w0 (w.setRow g cs) :=
  hb.trans ⟨rfl, rfl, rfl, by simp [World.setRow], fun k hk => setRow_other w g k cs (by omega)⟩
theorem info1 : (Try.prog.info? 5).map (·.size) = some 1 := by kernel_rfl
theorem make48 (w : World) : (Instr.makeSlice 54 (.int .i64 48) (.int .i64 48)).run Try.prog w = .ok (.slice (some ⟨w.heap.size, 0, none⟩) 48 48) (w.alloc (.cells (byteVals (noughts 48)).toArray 5)) := by
  obtain ⟨i0, hi, hz0, hz1, hz2⟩ := info_parts info_u8
  have h := run_make (P := Try.prog) w 54 5 i0 (.int .u8 0) Try.underlying54 hi hz0 .i64 .i64 48 48 (by omega) (Int.le_refl _) (by rw [hz2]; decide) (by decide)
  rw [hz1, made_nums] at h
  exact h
theorem make16 (w : World) : (Instr.makeSlice 54 (.int .i64 16) (.int .i64 16)).run Try.prog w = .ok (.slice (some ⟨w.heap.size, 0, none⟩) 16 16) (w.alloc (.cells (byteVals (noughts 16)).toArray 5)) := by
  obtain ⟨i0, hi, hz0, hz1, hz2⟩ := info_parts info_u8
  have h := run_make (P := Try.prog) w 54 5 i0 (.int .u8 0) Try.underlying54 hi hz0 .i64 .i64 16 16 (by omega) (Int.le_refl _) (by rw [hz2]; decide) (by decide)
  rw [hz1, made_nums] at h
  exact h
theorem name_vals (s : ByteArray) : byteVals (s.data.toList.take 48) ++ ((byteVals (noughts 48)).toArray.toList).drop (Nat.min s.size 48) = byteVals (nameC s.data.toList) := by
  have e : (byteVals (noughts 48)).drop (Nat.min s.size 48) = byteVals (noughts (48 - s.data.toList.length)) := by
    unfold byteVals noughts
    rw [← List.map_drop, List.drop_replicate, size_list]
    congr 2
    rcases Nat.le_total s.size 48 with h | h
    · rw [show Nat.min s.size 48 = s.size from Nat.min_eq_left h]
    · rw [show Nat.min s.size 48 = 48 from Nat.min_eq_right h]; omega
  show byteVals (s.data.toList.take 48) ++ (byteVals (noughts 48)).drop (Nat.min s.size 48) = _
  rw [e]
  unfold nameC byteVals
  rw [List.map_append]
set_option maxHeartbeats 1000000 in
theorem name_any (s : ByteArray) (w : World) :
    Calls Try.prog 32 #[.string s] w fun x w' => x = .returned (.string ⟨(nameC s.data.toList).toArray⟩) ∧ Below w.heap.size w w' := by
  have hmk := make48 w
  obtain ⟨C0, hC0⟩ : ∃ C0, C0 = (byteVals (noughts 48)).toArray := ⟨_, rfl⟩
  rw [← hC0] at hmk
  obtain ⟨C1, hC1⟩ : ∃ C1, C1 = (byteVals (s.data.toList.take 48) ++ C0.toList.drop (Nat.min s.size 48)).toArray := ⟨_, rfl⟩
  have HV := Lib.hid (show C1.toList = byteVals (nameC s.data.toList) by rw [hC1, hC0]; exact name_vals s)
  have HC0 := Lib.hid (show C0.size = 48 by rw [hC0]; rfl)
  have HC1 := Lib.hid hC1
  clear hC0 hC1
  obtain ⟨nm, hnm⟩ : ∃ nm : ByteArray, (⟨(nameC s.data.toList).toArray⟩ : ByteArray) = nm := ⟨_, rfl⟩
  rw [hnm]
  have HNM := Lib.hid hnm; clear hnm
  go_enter Try.func32, Try.ntmps32
  go_upto_region 2 with (fail)
  have HK := Lib.hid (Blk.fresh w 5 C0)
  have HB := Lib.hid ((Below.refl w.heap.size w).alloc (Nat.le_refl _) (.cells C0 5))
  generalize w.alloc (.cells C0 5) = w1 at HK HB ⊢
  clear hmk
  go_upto_region 3 with (((with_reducible refine wpList_copy_str (o := ⟨some 7, _, _, _, _, _⟩) ?_ (.tmp 5) (.tmp 6) 54 9 ?_ 5 Try.underlying54 info1 w.heap.size 48 48 s ?_ ?_ C0 5 HK.out HC0.out ?_); (rfl); (rfl); (rfl); (rfl); (rw [← HC1.out])))
  have HK2 := Lib.hid (show Blk (w1.setRow w.heap.size C1) w.heap.size 5 C1 from setRow_heap w1 w.heap.size C0 C1 5 (0, 0) HK.out)
  have HB2 := Lib.hid (below_row HB.out (Nat.le_refl _) C1)
  generalize w1.setRow w.heap.size C1 = w2 at HK2 HB2 ⊢
  have hcv := Rg.back_blk (P := Try.prog) (src := 54) (dst := 9) nm (nameC s.data.toList) 48 48 HK2.out HV.out (length_name _) HNM.out Try.underlying54 Try.underlying5 Try.underlying9
  go_wp2
  go_ret
  exact ⟨rfl, HB2.out⟩
theorem name_at {nm : ByteArray} (s : ByteArray) (w : World) (h : (⟨(nameC s.data.toList).toArray⟩ : ByteArray) = nm) :
    Calls Try.prog 32 #[.string s] w fun x w' => x = .returned (.string nm) ∧ Below w.heap.size w w' := by
  rw [← h]; exact name_any s w

/-- the bytes of a group's text, k of them laid -/
def laid (l : List UInt8) (k : Nat) (i : Nat) : Nat := if i < k then byteAt l i else 0
theorem laid_lt (l : List UInt8) (k i : Nat) : laid l k i < 256 := by
  unfold laid
  split
  · exact UInt8.toNat_lt _
  · omega
theorem laid_zero (l : List UInt8) (m : Nat) : madeCells (Value.int .u8 0).cells (m * 1) = byteCells m (laid l 0) := by
  rw [made_nums]
  unfold numCells byteCells laid
  congr 1
theorem laid_put (l : List UInt8) (m k : Nat) : (byteCells m (laid l k)).setIfInBounds k (.int .u8 (byteAt l k : Nat)) = byteCells m (laid l (k + 1)) := by
  refine put_byteCells m _ _ _ _ ?_ ?_
  · unfold laid; rw [if_pos (by omega)]
  · intro i hi
    unfold laid
    by_cases h : i < k
    · rw [if_pos h, if_pos (by omega)]
    · rw [if_neg h, if_neg (by omega)]
theorem laid_name (l : List UInt8) (k : Nat) (h1 : k ≤ 48) (h2 : k ≤ l.length) (h3 : k = 48 ∨ k = l.length) : (List.range 48).map (fun i => UInt8.ofNat (laid l k i)) = nameC l := by
  unfold nameC noughts
  apply List.ext_getElem
  · simp; omega
  · intro i h4 h5
    simp only [List.length_map, List.length_range] at h4
    rw [List.getElem_map, List.getElem_range]
    unfold laid
    by_cases h : i < k
    · rw [if_pos h, List.getElem_append_left (by rw [List.length_take]; omega), List.getElem_take]
      unfold byteAt
      rw [List.getD_eq_getElem?_getD, List.getElem?_eq_getElem (by omega)]
      simp
    · rw [if_neg h, List.getElem_append_right (by rw [List.length_take]; omega)]
      simp
theorem make48f (l : List UInt8) (w : World) : (Instr.makeSlice 54 (.int .i64 48) (.int .i64 48)).run Try.prog w = .ok (.slice (some ⟨w.heap.size, 0, none⟩) 48 48) (w.alloc (.cells (byteCells 48 (laid l 0)) 5)) := by
  obtain ⟨i0, hi, hz0, hz1, hz2⟩ := info_parts info_u8
  have h := run_make (P := Try.prog) w 54 5 i0 (.int .u8 0) Try.underlying54 hi hz0 .i64 .i64 48 48 (by omega) (Int.le_refl _) (by rw [hz2]; decide) (by decide)
  rw [hz1, laid_zero l] at h
  exact h
end Go.Proofs.Ytoiggajjbjcabaa.Cc
namespace Go.Proofs.Ytoiggajjbjcabaa.Cc
open Go.RowKit Go.Proofs.Ytoiggajjbjcabaa.Bt Go.Proofs.Ytoiggajjbjcabaa.Mm Go.Proofs.Ytoiggajjbjcabaa.Fl Go.Proofs.Ytoiggajjbjcabaa.Lw Go.Proofs.Ytoiggajjbjcabaa.Hx Go.Proofs.Ytoiggajjbjcabaa.Mc Go.Proofs.Ytoiggajjbjcabaa.Tg Go.Proofs.Ytoiggajjbjcabaa.Oa Go.Proofs.Ytoiggajjbjcabaa.Rp
set_option linter.unusedSimpArgs false

theorem flags_bits (b : Bool) (p : Nat) (hp : p < 8) : bitsN (bitN b 1) 1 ++ (bitsN 0 4 ++ bitsN p 3) = bitsN (p + bitN b 128) 8 := by
  have h : ∀ b : Bool, ∀ p : Fin 8, bitsN (bitN b 1) 1 ++ (bitsN 0 4 ++ bitsN p.val 3) = bitsN (p.val + bitN b 128) 8 := by decide +kernel
  exact h b ⟨p, hp⟩
abbrev partsF (b : Bool) (p : Nat) : List (Int × Nat) := [(1, bitN b 1), (4, 0), (3, p)]
abbrev partsC (c e : Nat) : List (Int × Nat) := [(32, c), (3, 0), (13, e)]
theorem bitN_lt (b : Bool) : bitN b 1 < 2 := by cases b <;> simp [bitN]
theorem pack_flags (b : Bool) (p : Nat) (hp : p < 8) : packR (partsF b p) = ([UInt8.ofNat (p + bitN b 128)], 0) := by
  have hb := bitN_lt b
  have hm : p + bitN b 128 < 256 := by unfold bitN; split <;> omega
  have eA : allBits (partsF b p) = bitsB [UInt8.ofNat (p + bitN b 128)] := by
    have e1 : allBits (partsF b p) = bitsN (bitN b 1) 1 ++ (bitsN 0 4 ++ bitsN p 3) := by simp [allBits]
    rw [e1, flags_bits b p hp, bitsB_cons, ofNat_toNat _ hm]
    simp [bitsB]
  have hok : (partsF b p).all okP = true := by
    simp only [List.all_cons, List.all_nil, Bool.and_true, Bool.and_eq_true, okP, decide_eq_true_eq]
    refine ⟨⟨by omega, by omega, ?_⟩, ⟨by omega, by omega, ?_⟩, ⟨by omega, by omega, ?_⟩⟩ <;> simp <;> omega
  unfold packR
  rw [if_pos hok, eA, if_pos (by rw [length_bitsB]; omega), bytesOf_bitsB]
theorem pack_cont (c e : Nat) (hc : c < 4294967296) (he : e < 8192) : packR (partsC c e) = (putB c 4 ++ putB e 2, 0) := by
  have eA : allBits (partsC c e) = bitsB (putB c 4 ++ putB e 2) := by
    have e1 : allBits (partsC c e) = bitsN c 32 ++ (bitsN 0 3 ++ bitsN e 13) := by simp [allBits]
    have e2 := bitsN_join 0 e 3 13 (by omega)
    rw [e1, ← e2, bitsB_append, bitsB_putB, bitsB_putB]
    simp
  have hok : (partsC c e).all okP = true := by
    simp only [List.all_cons, List.all_nil, Bool.and_true, Bool.and_eq_true, okP, decide_eq_true_eq]
    refine ⟨⟨by omega, by omega, ?_⟩, ⟨by omega, by omega, ?_⟩, ⟨by omega, by omega, ?_⟩⟩ <;> simp <;> omega
  unfold packR
  rw [if_pos hok, eA, if_pos (by rw [length_bitsB]; omega), bytesOf_bitsB]
/-- a message's cells in a block -/
def Sc (g : Nat) (b : Bool) (p c e : Nat) (gr : ByteArray) (w : World) : Prop :=
  g < w.heap.size ∧ w.cell? ⟨g, 0, none⟩ = some (.bool b) ∧ w.cell? ⟨g, 1, none⟩ = some (.int .u8 (p : Int)) ∧ w.cell? ⟨g, 2, none⟩ = some (.int .u32 (c : Int)) ∧ w.cell? ⟨g, 3, none⟩ = some (.int .u16 (e : Int)) ∧ w.cell? ⟨g, 4, none⟩ = some (.string gr)
theorem sc_keeps (g : Nat) (b : Bool) (p c e : Nat) (gr : ByteArray) : Rg.Keeps (Sc g b p c e gr) := fun _ _ hs hb => Rw5.keep hb hs

set_option maxHeartbeats 1000000 in
theorem close_wrong (b : Bool) (p c e : Nat) (g : ByteArray) (l r : Nat) (w : World) (hr : wrongC ⟨b, p, c, e, g.data.toList⟩ l = r) (h0 : r ≠ 0) :
    Calls Try.prog 36 #[cmV b p c e g, .int .u8 (l : Int)] w fun x w' => x = .returned (.tuple #[.string ⟨#[]⟩, .int .i64 (r : Int)]) ∧ Below w.heap.size w w' := by
  have h2 : ((r : Int) != 0) = true := neq_t (by omega)
  have HR := Lib.hid hr
  have HB := Lib.hid ((Below.refl w.heap.size w).alloc (Nat.le_refl _) (.cells (cmC b p c e g) 62))
  clear h0 hr
  go_enter Try.func36, Try.ntmps36
  go_wp2_with fail
  refine (wrong_at b p c e g l _ HR.out).mono ?_
  rintro x w1 ⟨rfl, hb1⟩
  have HB1 := Lib.hid (HB.out.trans (hb1.mono HB.out.size))
  clear hb1
  go_wp2
  go_ret2
  exact ⟨rfl, HB1.out⟩
set_option maxRecDepth 100000 in
set_option maxHeartbeats 4000000 in
theorem close_ok (b : Bool) (p c e : Nat) (g : ByteArray) (l : Nat) (f : Nat) (fs cs1 sZ : ByteArray) (bs : List UInt8) (r : Nat) (w : World) (hr : wrongC ⟨b, p, c, e, g.data.toList⟩ l = 0) (hp : p < 8) (hc : c < 4294967296) (he : e < 8192) (hg : g.size = 48)
    (hpf : packR (partsF b p) = (fs.data.toList, 0)) (hpc : packR (partsC c e) = (cs1.data.toList, 0)) (hf0 : 0 < fs.size) (hf : (fs[0]).toNat = f) (hf2 : f < 256) (hc1 : cs1.size = 6) (hz : (⟨(noughts 16).toArray⟩ : ByteArray) = sZ)
    (hcl : closeO ⟨l, 0, 1, f, 70⟩ (cs1 ++ (g ++ sZ)).data.toList = (bs, r)) :
    Calls Try.prog 36 #[cmV b p c e g, .int .u8 (l : Int)] w fun x w' => x = .returned (.tuple #[.string ⟨bs.toArray⟩, .int .i64 (r : Int)]) ∧ Below w.heap.size w w' := by
  have hz16 : sZ.size = 16 := by rw [← hz]; rfl
  have z1 : ¬ 9223372036854775807 < g.size + sZ.size := by omega
  have z2 : ¬ 9223372036854775807 < cs1.size + (g.size + sZ.size) := by omega
  have k1 : IntKind.u64.wrap (p : Int) = (p : Int) := IntWalk.u64_in _ ⟨by omega, by omega⟩
  have k2 : IntKind.u64.wrap (c : Int) = (c : Int) := IntWalk.u64_in _ ⟨by omega, by omega⟩
  have k3 : IntKind.u64.wrap (e : Int) = (e : Int) := IntWalk.u64_in _ ⟨by omega, by omega⟩
  have HR := Lib.hid hr; clear hr
  have HPF := Lib.hid hpf; clear hpf
  have HPC := Lib.hid hpc; clear hpc
  have HSZ := Lib.hid hz; clear hz
  have HCL := Lib.hid hcl; clear hcl
  have HVF := Lib.hid (show ∀ x ∈ partsF b p, x.2 < 18446744073709551616 by
    have := bitN_lt b
    intro x hx
    simp only [partsF, List.mem_cons, List.not_mem_nil, or_false] at hx
    rcases hx with rfl | rfl | rfl <;> simp only <;> omega)
  have HVC := Lib.hid (show ∀ x ∈ partsC c e, x.2 < 18446744073709551616 by
    intro x hx
    simp only [partsC, List.mem_cons, List.not_mem_nil, or_false] at hx
    rcases hx with rfl | rfl | rfl <;> simp only <;> omega)
  have HB := Lib.hid ((Below.refl w.heap.size w).alloc (Nat.le_refl _) (.cells (cmC b p c e g) 62))
  have K0 := Lib.hid (Rw5.fresh w 62 (.bool b) (.int .u8 (p : Int)) (.int .u32 (c : Int)) (.int .u16 (e : Int)) (.string g))
  have HF2 := Lib.hid hf2
  clear hz16 hc1 hg hf2 hp hc he
  go_enter Try.func36, Try.ntmps36
  go_wp2_with fail
  refine (wrong_at b p c e g l _ HR.out).mono ?_
  rintro x w1 ⟨rfl, hb1⟩
  have HB1 := Lib.hid (HB.out.trans (hb1.mono HB.out.size))
  have K1 := Lib.hid (Rw5.keep hb1 K0.out)
  clear hb1 K0 HB
  go_upto_region 4 with (fail)
  obtain ⟨wa, hwa⟩ : ∃ wa, wa = w1.drew := ⟨_, rfl⟩
  have HBR := Lib.hid (show Below w.heap.size w wa by rw [hwa]; exact HB1.out.drew)
  have KS := Lib.hid (sc_keeps w.heap.size b p c e g)
  refine wp_region_held_drew (S := Sc w.heap.size b p c e g) (by kernel_rfl) K1.out (fun hHeld => ?_)
  rw [← hwa] at hHeld ⊢
  have HWA := Lib.hid hwa
  clear hwa K1 HB1
  refine Rg.tk 0 (v := ?_) ?_ ?_
  rotate_left
  · (intro wx hSx; go_simp; all_goals with_reducible rfl)
  simp only [Act.put, Rg.e1, Rg.e2, Rg.e3, Rg.e4, Rg.e5, Rg.e6]
  refine Rg.tk 1 (v := ?_) ?_ ?_
  rotate_left
  · intro wx hSx
    obtain ⟨_, d0, d1, d2, d3, d4⟩ := hSx; go_simp
    all_goals with_reducible rfl
  simp only [Act.put, Rg.e1, Rg.e2, Rg.e3, Rg.e4, Rg.e5, Rg.e6]
  refine Rg.tk 4 (v := ?_) ?_ ?_
  rotate_left
  · (intro wx hSx; go_simp; all_goals with_reducible rfl)
  simp only [Act.put, Rg.e1, Rg.e2, Rg.e3, Rg.e4, Rg.e5, Rg.e6]
  refine Rg.tk 5 (v := ?_) ?_ ?_
  rotate_left
  · (intro wx hSx; go_simp; all_goals with_reducible rfl)
  simp only [Act.put, Rg.e1, Rg.e2, Rg.e3, Rg.e4, Rg.e5, Rg.e6]
  refine Rg.tk 6 (v := ?_) ?_ ?_
  rotate_left
  · intro wx hSx
    obtain ⟨_, d0, d1, d2, d3, d4⟩ := hSx; go_simp
    all_goals with_reducible rfl
  simp only [Act.put, Rg.e1, Rg.e2, Rg.e3, Rg.e4, Rg.e5, Rg.e6]
  refine Rg.tk 7 (v := ?_) ?_ ?_
  rotate_left
  · (intro wx hSx; go_simp; all_goals with_reducible rfl)
  simp only [Act.put, Rg.e1, Rg.e2, Rg.e3, Rg.e4, Rg.e5, Rg.e6]
  refine Rg.tk 8 (v := ?_) ?_ ?_
  rotate_left
  · (intro wx hSx; go_simp; all_goals with_reducible rfl)
  simp only [Act.put, Rg.e1, Rg.e2, Rg.e3, Rg.e4, Rg.e5, Rg.e6]
  refine wpAnyH_ready (rs := [2]) (by kernel_rfl) (by simp) ?_
  refine .cons (o := _) rfl (fun K hK => ?_) ?_
  · go_simp
    refine (lv_any b _).mono ?_
    rintro x wa ⟨rfl, rfl⟩
    have hbc := Below.refl wa.heap.size wa
    go_wp2_with fail
    refine Rg.st_call hK hHeld KS.out HBR.out hbc ?_
    clear hK K
    intro hHeld hbr
    have HBR := Lib.hid hbr
    clear hbr hbc
    try simp only [Rg.e1, Rg.e2, Rg.e3]
    refine Rg.tk 3 (v := ?_) ?_ ?_
    rotate_left
    · (intro wx hSx; go_simp; all_goals with_reducible rfl)
    simp only [Act.put, Rg.e1, Rg.e2, Rg.e3, Rg.e4, Rg.e5, Rg.e6]
    refine wpAnyH_ready (rs := [9]) (by kernel_rfl) (by simp) ?_
    refine .cons (o := _) rfl (fun K hK => ?_) ?_
    · go_simp
      refine Rg.st_alloc hK hHeld KS.out HBR.out ?_
      clear hK K
      intro wr2 hlt hHeld ks hbr
      have HBR := Lib.hid hbr
      have KS := Lib.hid ks
      clear hbr ks hlt
      try simp only [Rg.e1, Rg.e2, Rg.e3]
      refine wpAnyH_ready (rs := [10]) (by kernel_rfl) (by simp) ?_
      refine .cons (o := _) rfl (fun K hK => ?_) ?_
      · go_simp
        refine (pack_blk (partsF b p) _ _ 3 0 _ _ _ _ hHeld.2 (by simp [partCells]) rfl (by omega) HVF.out HPF.out).mono ?_
        rintro x wr3 ⟨rfl, hbc⟩
        go_wp2_with fail
        refine Rg.st_call hK hHeld KS.out HBR.out hbc ?_
        clear hK K
        intro hHeld hbr
        have HBR := Lib.hid hbr
        clear hbr hbc
        try simp only [Rg.e1, Rg.e2, Rg.e3]
        refine Rg.tk 11 (v := ?_) ?_ ?_
        rotate_left
        · (intro wx hSx; go_simp; all_goals with_reducible rfl)
        simp only [Act.put, Rg.e1, Rg.e2, Rg.e3, Rg.e4, Rg.e5, Rg.e6]
        refine Rg.tk 12 (v := ?_) ?_ ?_
        rotate_left
        · (intro wx hSx; go_simp; all_goals with_reducible rfl)
        simp only [Act.put, Rg.e1, Rg.e2, Rg.e3, Rg.e4, Rg.e5, Rg.e6]
        refine Rg.tk 13 (v := ?_) ?_ ?_
        rotate_left
        · (intro wx hSx; go_simp; all_goals with_reducible rfl)
        simp only [Act.put, Rg.e1, Rg.e2, Rg.e3, Rg.e4, Rg.e5, Rg.e6]
        refine Rg.tk 14 (v := ?_) ?_ ?_
        rotate_left
        · (intro wx hSx; go_simp; all_goals with_reducible rfl)
        simp only [Act.put, Rg.e1, Rg.e2, Rg.e3, Rg.e4, Rg.e5, Rg.e6]
        refine Rg.tk 15 (v := ?_) ?_ ?_
        rotate_left
        · (intro wx hSx; go_simp; all_goals with_reducible rfl)
        simp only [Act.put, Rg.e1, Rg.e2, Rg.e3, Rg.e4, Rg.e5, Rg.e6]
        refine wpAnyH_done (by kernel_rfl) ?_ _
        have KC := Lib.hid hHeld.1
        clear hHeld KS
        obtain ⟨_, d0, d1, d2, d3, d4⟩ := KC.out
        go_wp2_with fail
        refine (pack_blk (partsC c e) _ _ 3 0 _ _ _ _ (Blk.fresh _ _ _) (by simp [partCells]) rfl (by omega) HVC.out HPC.out).mono ?_
        rintro x w5 ⟨rfl, hb5⟩
        have HB5 := Lib.hid ((HBR.out.alloc HBR.out.size _).trans (hb5.mono (by have := HBR.out.size; simp; omega)))
        have K5 := Lib.hid (Rw5.keep hb5 (Rw5.keep ((Below.refl _ _).alloc (Nat.le_refl _) _) KC.out))
        clear hb5 HBR KC d0 d1 d2 d3 d4
        go_upto_region 6 with (fail)
        obtain ⟨wd, hwd⟩ : ∃ wd, wd = w5.drew := ⟨_, rfl⟩
        have HBR := Lib.hid (show Below w.heap.size w wd by rw [hwd]; exact HB5.out.drew)
        have KS := Lib.hid (sc_keeps w.heap.size b p c e g)
        refine wp_region_held_drew (S := Sc w.heap.size b p c e g) (by kernel_rfl) K5.out (fun hHeld => ?_)
        rw [← hwd] at hHeld ⊢
        have HWD := Lib.hid hwd
        clear hwd K5 HB5
        refine Rg.tk 0 (v := ?_) ?_ ?_
        rotate_left
        · (intro wx hSx; go_simp; all_goals with_reducible rfl)
        simp only [Act.put, Rg.e1, Rg.e2, Rg.e3, Rg.e4, Rg.e5, Rg.e6]
        refine Rg.tk 1 (v := ?_) ?_ ?_
        rotate_left
        · (intro wx hSx; go_simp; all_goals with_reducible rfl)
        simp only [Act.put, Rg.e1, Rg.e2, Rg.e3, Rg.e4, Rg.e5, Rg.e6]
        refine Rg.tk 2 (v := ?_) ?_ ?_
        rotate_left
        · intro wx hSx
          obtain ⟨_, d0, d1, d2, d3, d4⟩ := hSx; go_simp
          all_goals with_reducible rfl
        simp only [Act.put, Rg.e1, Rg.e2, Rg.e3, Rg.e4, Rg.e5, Rg.e6]
        refine wpAnyH_ready (rs := [3]) (by kernel_rfl) (by simp) ?_
        refine .cons (o := _) rfl (fun K hK => ?_) ?_
        · have hmk := make16 wd
          go_simp
          refine Rg.st_alloc hK hHeld KS.out HBR.out ?_
          clear hK K
          intro wr1 hlt hHeld ks hbr
          have HBR := Lib.hid hbr
          have KS := Lib.hid ks
          clear hbr ks hlt
          try simp only [Rg.e1, Rg.e2, Rg.e3]
          refine Rg.tk 4 (v := ?_) ?_ ?_
          rotate_left
          · intro wx hSx
            have hcv := Rg.back_blk (P := Try.prog) (src := 54) (dst := 9) sZ (noughts 16) 16 16 hSx.2 rfl rfl HSZ.out Try.underlying54 Try.underlying5 Try.underlying9; go_simp
            all_goals with_reducible rfl
          simp only [Act.put, Rg.e1, Rg.e2, Rg.e3, Rg.e4, Rg.e5, Rg.e6]
          refine Rg.tk 5 (v := ?_) ?_ ?_
          rotate_left
          · (intro wx hSx; go_simp; all_goals with_reducible rfl)
          simp only [Act.put, Rg.e1, Rg.e2, Rg.e3, Rg.e4, Rg.e5, Rg.e6]
          refine Rg.tk 6 (v := ?_) ?_ ?_
          rotate_left
          · (intro wx hSx; go_simp; all_goals with_reducible rfl)
          simp only [Act.put, Rg.e1, Rg.e2, Rg.e3, Rg.e4, Rg.e5, Rg.e6]
          refine Rg.tk 7 (v := ?_) ?_ ?_
          rotate_left
          · (intro wx hSx; go_simp; all_goals with_reducible rfl)
          simp only [Act.put, Rg.e1, Rg.e2, Rg.e3, Rg.e4, Rg.e5, Rg.e6]
          refine wpAnyH_done (by kernel_rfl) ?_ _
          go_wp2_with fail
          refine (Oa.close_at l 0 1 f 70 _ _ HCL.out (by omega) HF2.out (by omega)).mono ?_
          rintro x w9 ⟨rfl, hb9⟩
          have HB9 := Lib.hid (HBR.out.trans (hb9.mono HBR.out.size))
          clear hb9
          go_wp2
          go_ret2
          exact ⟨rfl, HB9.out⟩
        exact AllReadyH.nil
      exact AllReadyH.nil
    exact AllReadyH.nil
  exact AllReadyH.nil
end Go.Proofs.Ytoiggajjbjcabaa.Cc
