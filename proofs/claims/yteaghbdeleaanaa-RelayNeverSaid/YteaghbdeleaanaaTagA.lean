/-
  Plain lemmas on frames with a tag: their bytes, and back.
  Contracts: tagged's wrong and dropValue.
  Contract of tagged's Close.
  Close's contract in the document's words: its answer is closeT's.
  Contracts: the statement's Of, the document's Close.
  The statement TaggedCloses: its walk.
  Arguments that are structs of one-cell fields, by value: opened field by field; a frame.
-/
import Derived.Test.YteaghbdeleaanaaMacB
import Derived.Test.YteaghbdeleaanaaGen
import Derived.Test.YteaghbdeleaanaaOpen
namespace Go.Proofs.Yteaghbdeleaanaa.Tg
open Go.Proofs.Yteaghbdeleaanaa.Bt Go.Proofs.Yteaghbdeleaanaa.Fl Go.Proofs.Yteaghbdeleaanaa.Hx Go.Proofs.Yteaghbdeleaanaa.Mc

structure Fr where
  dst : Nat
  src : Nat
  pri : Nat
  drop : Bool
  vlan : Nat
  type : Nat
  body : List UInt8
def zeroF : Fr := ⟨0, 0, 0, false, 0, 0, []⟩
/-- the two bytes of a tag, as a number -/
def tci (f : Fr) : Nat := f.pri * 8192 + (if f.drop = true then 4096 else 0) + f.vlan
def badAddr (f : Fr) : Bool := !(mayB f.dst) || (!(mayB f.src) || groupB f.src)
def badRange (f : Fr) : Bool := decide (7 < f.pri) || (decide (f.vlan = 0) || decide (4094 < f.vlan))
def frameBytes (f : Fr) : List UInt8 := bytesM f.dst ++ (bytesM f.src ++ ([0x81, 0] ++ (putB (tci f) 2 ++ (putB f.type 2 ++ f.body))))
/-- what Close answers -/
def closeT (f : Fr) : List UInt8 × Nat :=
  if badAddr f = true then ([], 3) else if badRange f = true then ([], 4) else if f.type < 1536 then ([], 6) else if 1600 < 18 + f.body.length then ([], 2) else (frameBytes f, 0)
/-- the frame that stands in bytes, wrong or not -/
def frameOf (s : List UInt8) : Fr := ⟨getN s 0 6, getN s 6 6, getN s 14 2 / 8192, getN s 14 2 / 4096 % 2 == 1, getN s 14 2 % 4096, getN s 16 2, s.drop 18⟩
/-- what Open answers -/
def openT (s : List UInt8) : Fr × Nat :=
  if s.length < 18 then (zeroF, 1) else if 1600 < s.length then (zeroF, 2) else if (s.drop 12).take 2 ≠ [0x81, 0] then (zeroF, 5)
  else if groupB (frameOf s).src = true then (zeroF, 3) else if (frameOf s).vlan = 0 ∨ (frameOf s).vlan = 4095 then (zeroF, 4) else if (frameOf s).type < 1536 then (zeroF, 6) else (frameOf s, 0)

theorem bytesM_put {n : Nat} (h : n < 281474976710656) : bytesM n = putB n 6 := by unfold bytesM; rw [bytesM_yes h]; rfl
theorem tci_lt {f : Fr} (hp : f.pri ≤ 7) (hv : f.vlan ≤ 4094) : tci f < 65536 := by unfold tci; split <;> omega
theorem length_frame {f : Fr} (hd : f.dst < 281474976710656) (hs : f.src < 281474976710656) : (frameBytes f).length = 18 + f.body.length := by
  unfold frameBytes
  simp only [List.length_append, length_bytesM hd, length_bytesM hs, length_putB, List.length_cons, List.length_nil]
  omega
theorem closeT_zero {f : Fr} {b : List UInt8} (h : closeT f = (b, 0)) : badAddr f = false ∧ badRange f = false ∧ 1536 ≤ f.type ∧ 18 + f.body.length ≤ 1600 ∧ b = frameBytes f := by
  unfold closeT at h
  split at h
  · simp at h
  · rename_i h1
    split at h
    · simp at h
    · rename_i h2
      split at h
      · simp at h
      · rename_i h3
        split at h
        · simp at h
        · rename_i h4
          simp only [Prod.mk.injEq, and_true] at h
          exact ⟨by simpa using h1, by simpa using h2, by omega, by omega, h.symm⟩
theorem addr_parts {f : Fr} (h : badAddr f = false) : f.dst < 281474976710656 ∧ f.src < 281474976710656 ∧ groupB f.src = false := by
  unfold badAddr at h
  simp only [Bool.or_eq_false_iff, Bool.not_eq_false'] at h
  exact ⟨of_decide_eq_true h.1, of_decide_eq_true h.2.1, h.2.2⟩
theorem range_parts {f : Fr} (h : badRange f = false) : f.pri ≤ 7 ∧ 1 ≤ f.vlan ∧ f.vlan ≤ 4094 := by
  unfold badRange at h
  simp only [Bool.or_eq_false_iff, decide_eq_false_iff_not] at h
  omega
/-- the frame that stands in a frame's bytes -/
theorem frameOf_bytes {f : Fr} (ha : badAddr f = false) (hr : badRange f = false) (ht : f.type < 65536) : frameOf (frameBytes f) = f := by
  obtain ⟨hd, hs, _⟩ := addr_parts ha
  obtain ⟨hp, hv1, hv2⟩ := range_parts hr
  have htc := tci_lt hp hv2
  have g0 : getN (frameBytes f) 0 6 = f.dst := by
    have := getN_putB f.dst 6 (by simpa using hd) [] (bytesM f.src ++ ([0x81, 0] ++ (putB (tci f) 2 ++ (putB f.type 2 ++ f.body))))
    rw [← bytesM_put hd] at this
    simpa [frameBytes] using this
  have g1 : getN (frameBytes f) 6 6 = f.src := by
    have := getN_putB f.src 6 (by simpa using hs) (bytesM f.dst) ([0x81, 0] ++ (putB (tci f) 2 ++ (putB f.type 2 ++ f.body)))
    rw [← bytesM_put hs, length_bytesM hd] at this
    simpa [frameBytes] using this
  have g2 : getN (frameBytes f) 14 2 = tci f := by
    have := getN_putB (tci f) 2 (by simpa using htc) (bytesM f.dst ++ bytesM f.src ++ [0x81, 0]) (putB f.type 2 ++ f.body)
    have hl : (bytesM f.dst ++ bytesM f.src ++ [0x81, 0]).length = 14 := by simp [length_bytesM hd, length_bytesM hs]
    rw [hl] at this
    simpa [frameBytes] using this
  have g3 : getN (frameBytes f) 16 2 = f.type := by
    have := getN_putB f.type 2 (by simpa using ht) (bytesM f.dst ++ bytesM f.src ++ [0x81, 0] ++ putB (tci f) 2) f.body
    have hl : (bytesM f.dst ++ bytesM f.src ++ [0x81, 0] ++ putB (tci f) 2).length = 16 := by simp [length_bytesM hd, length_bytesM hs, length_putB]
    rw [hl] at this
    simpa [frameBytes] using this
  have g4 : (frameBytes f).drop 18 = f.body := by
    have hl : (bytesM f.dst ++ bytesM f.src ++ [0x81, 0] ++ putB (tci f) 2 ++ putB f.type 2).length = 18 := by simp [length_bytesM hd, length_bytesM hs, length_putB]
    have e : frameBytes f = (bytesM f.dst ++ bytesM f.src ++ [0x81, 0] ++ putB (tci f) 2 ++ putB f.type 2) ++ f.body := by simp [frameBytes]
    rw [e, List.drop_left' hl]
  unfold frameOf
  rw [g0, g1, g2, g3, g4]
  obtain ⟨dst, src, pri, drop, vlan, type, body⟩ := f
  simp only [Fr.mk.injEq, true_and, and_true]
  simp only at hp hv1 hv2
  unfold tci
  cases drop
  · simp only [Bool.false_eq_true, if_false]
    refine ⟨by omega, ?_, by omega⟩
    rw [beq_eq_false_iff_ne]; omega
  · simp only [if_true]
    refine ⟨by omega, ?_, by omega⟩
    rw [beq_iff_eq]; omega
theorem tag_bytes {f : Fr} (ha : badAddr f = false) : ((frameBytes f).drop 12).take 2 = [0x81, 0] := by
  obtain ⟨hd, hs, _⟩ := addr_parts ha
  have e : frameBytes f = (bytesM f.dst ++ bytesM f.src) ++ ([0x81, 0] ++ (putB (tci f) 2 ++ (putB f.type 2 ++ f.body))) := by simp [frameBytes]
  rw [e, List.drop_left' (by simp [length_bytesM hd, length_bytesM hs])]
  rfl
/-- P3.2, one way -/
theorem open_closed {f : Fr} {b : List UInt8} (h : closeT f = (b, 0)) (ht : f.type < 65536) : openT b = (f, 0) := by
  obtain ⟨ha, hr, hty, hln, rfl⟩ := closeT_zero h
  obtain ⟨hd, hs, hg⟩ := addr_parts ha
  obtain ⟨hp, hv1, hv2⟩ := range_parts hr
  have hl := length_frame (f := f) hd hs
  unfold openT
  rw [if_neg (by omega), if_neg (by omega), if_neg (by rw [tag_bytes ha]; simp), frameOf_bytes ha hr ht, if_neg (by rw [hg]; simp), if_neg (by omega), if_neg (by omega)]
theorem openT_zero {s : List UInt8} {f : Fr} (h : openT s = (f, 0)) : 18 ≤ s.length ∧ s.length ≤ 1600 ∧ (s.drop 12).take 2 = [0x81, 0] ∧ groupB (frameOf s).src = false ∧ (frameOf s).vlan ≠ 0 ∧ (frameOf s).vlan ≠ 4095 ∧ 1536 ≤ (frameOf s).type ∧ f = frameOf s := by
  unfold openT at h
  split at h
  · simp at h
  · rename_i h1
    split at h
    · simp at h
    · rename_i h2
      split at h
      · simp at h
      · rename_i h3
        split at h
        · simp at h
        · rename_i h4
          split at h
          · simp at h
          · rename_i h5
            split at h
            · simp at h
            · rename_i h6
              simp only [Prod.mk.injEq, and_true] at h
              exact ⟨by omega, by omega, by simpa using h3, by simpa using h4, fun e => h5 (.inl e), fun e => h5 (.inr e), by omega, h.symm⟩
/-- P3.2, the other way -/
theorem close_opened {s : List UInt8} {f : Fr} (h : openT s = (f, 0)) : closeT f = (s, 0) := by
  obtain ⟨h18, h16, htag, hg, hv0, hv1, hty, rfl⟩ := openT_zero h
  have b0 : getN s 0 6 < 281474976710656 := by have := getN_lt s 0 6; simpa using this
  have b1 : getN s 6 6 < 281474976710656 := by have := getN_lt s 6 6; simpa using this
  have b2 : getN s 14 2 < 65536 := by have := getN_lt s 14 2; simpa using this
  have ha : badAddr (frameOf s) = false := by
    unfold badAddr mayB
    rw [hg]
    simp [frameOf, b0, b1]
  have hr : badRange (frameOf s) = false := by
    have e1 : (frameOf s).pri = getN s 14 2 / 8192 := rfl
    have e2 : (frameOf s).vlan = getN s 14 2 % 4096 := rfl
    unfold badRange
    rw [Bool.or_eq_false_iff, Bool.or_eq_false_iff]
    exact ⟨decide_eq_false (by omega), decide_eq_false hv0, decide_eq_false (by omega)⟩
  have hb : (frameOf s).body.length = s.length - 18 := by simp [frameOf]
  have htci : tci (frameOf s) = getN s 14 2 := by
    unfold tci
    simp only [frameOf, beq_iff_eq]
    split <;> omega
  have e : frameBytes (frameOf s) = s := by
    unfold frameBytes
    rw [htci]
    show bytesM (getN s 0 6) ++ (bytesM (getN s 6 6) ++ ([0x81, 0] ++ (putB (getN s 14 2) 2 ++ (putB (getN s 16 2) 2 ++ s.drop 18)))) = s
    rw [bytesM_put b0, bytesM_put b1, putB_getN s 0 6 (by omega), putB_getN s 6 6 (by omega), putB_getN s 14 2 (by omega), putB_getN s 16 2 (by omega), ← htag]
    have cut : ∀ a n, (s.drop a).take n ++ s.drop (a + n) = s.drop a := fun a n => by rw [← List.drop_drop, List.take_append_drop]
    rw [cut 16 2, cut 14 2, cut 12 2, cut 6 6]
    simp
  unfold closeT
  rw [if_neg (by rw [ha]; simp), if_neg (by rw [hr]; simp), if_neg (by omega), if_neg (by omega), e]
end Go.Proofs.Yteaghbdeleaanaa.Tg
namespace Go.Proofs.Yteaghbdeleaanaa.Tg
open Go.RowKit Go.Proofs.Yteaghbdeleaanaa.Bt Go.Proofs.Yteaghbdeleaanaa.Mm Go.Proofs.Yteaghbdeleaanaa.Fl Go.Proofs.Yteaghbdeleaanaa.Rf Go.Proofs.Yteaghbdeleaanaa.Hx Go.Proofs.Yteaghbdeleaanaa.Lw Go.Proofs.Yteaghbdeleaanaa.Mc

/-- what is wrong with a frame -/
def wrongT (f : Fr) : Nat := if badAddr f = true then 3 else if badRange f = true then 4 else if f.type < 1536 then 6 else if 1600 < 18 + f.body.length then 2 else 0
theorem closeT_wrong (f : Fr) : closeT f = if wrongT f = 0 then (frameBytes f, 0) else ([], wrongT f) := by
  unfold closeT wrongT
  split
  · simp
  · split
    · simp
    · split
      · simp
      · split <;> simp
/-- a frame as a value -/
abbrev frV (d s p : Nat) (dr : Bool) (v t : Nat) (b : ByteArray) : Value := .agg #[.int .u64 (d : Int), .int .u64 (s : Int), .int .u8 (p : Int), .bool dr, .int .u16 (v : Int), .int .u16 (t : Int), .string b]
abbrev frT (d s p : Nat) (dr : Bool) (v t : Nat) (b : ByteArray) : Fr := ⟨d, s, p, dr, v, t, b.data.toList⟩

theorem drop_any (b : Bool) (n : Nat) (w : World) (h : (if b = true then 1 else 0) = n) :
    Calls Try.prog 29 #[.bool b] w fun e w' => e = .returned (.int .u64 (n : Int)) ∧ w = w' := by
  cases b
  · subst h
    go_enter Try.func29, Try.ntmps29
    go_wp2
    go_ret
    exact ⟨rfl, rfl⟩
  · subst h
    go_enter Try.func29, Try.ntmps29
    go_wp2
    go_ret
    exact ⟨rfl, rfl⟩

theorem w3 (f : Fr) (h : mayB f.dst = false ∨ mayB f.src = false ∨ groupB f.src = true) : wrongT f = 3 := by
  unfold wrongT badAddr
  rw [if_pos (by rcases h with h | h | h <;> simp [h])]
theorem w_addr (f : Fr) (h1 : mayB f.dst = true) (h2 : mayB f.src = true) (h3 : groupB f.src = false) : badAddr f = false := by
  unfold badAddr; simp [h1, h2, h3]
theorem w4 (f : Fr) (h : badAddr f = false) (h' : 7 < f.pri ∨ f.vlan = 0 ∨ 4094 < f.vlan) : wrongT f = 4 := by
  unfold wrongT
  rw [if_neg (by simp [h]), if_pos (by unfold badRange; rcases h' with h | h | h <;> simp [h])]
theorem w_range (f : Fr) (h1 : f.pri ≤ 7) (h2 : 1 ≤ f.vlan) (h3 : f.vlan ≤ 4094) : badRange f = false := by
  unfold badRange
  rw [Bool.or_eq_false_iff, Bool.or_eq_false_iff]
  exact ⟨decide_eq_false (by omega), decide_eq_false (by omega), decide_eq_false (by omega)⟩

set_option maxRecDepth 100000 in
set_option maxHeartbeats 1000000 in
theorem wrong_any (d s p v t : Nat) (dr : Bool) (b : ByteArray) (w : World) (hs : s < 18446744073709551616) (hb : b.size ≤ maxLen) :
    Calls Try.prog 27 #[frV d s p dr v t b] w fun e w' => e = .returned (.int .i64 (wrongT (frT d s p dr v t b) : Nat)) ∧ Below w.heap.size w w' := by
  unfold maxLen at hb
  obtain ⟨m1, hm1⟩ : ∃ m, mayB d = m := ⟨_, rfl⟩
  obtain ⟨m2, hm2⟩ : ∃ m, mayB s = m := ⟨_, rfl⟩
  obtain ⟨m3, hm3⟩ : ∃ m, groupB s = m := ⟨_, rfl⟩
  have H1 := Lib.hid hm1; clear hm1
  have H2 := Lib.hid hm2; clear hm2
  have H3 := Lib.hid hm3; clear hm3
  go_enter Try.func27, Try.ntmps27
  go_wp2_with fail
  have HB := Lib.hid ((Below.refl w.heap.size w).alloc (Nat.le_refl _) (.cells #[.int .u64 (d : Int), .int .u64 (s : Int), .int .u8 (p : Int), .bool dr, .int .u16 (v : Int), .int .u16 (t : Int), .string b] 27))
  refine (may_b m1 d _ H1.out).mono ?_
  rintro e w1 ⟨rfl, rfl⟩
  cases m1 with
  | false =>
    go_wp2
    go_ret
    exact ⟨ret_int (by rw [w3 _ (.inl H1.out)]; rfl), HB.out⟩
  | true =>
    go_wp2_with fail
    refine (may_b m2 s _ H2.out).mono ?_
    rintro e w1 ⟨rfl, rfl⟩
    cases m2 with
    | false =>
      go_wp2
      go_ret
      exact ⟨ret_int (by rw [w3 _ (.inr (.inl H2.out))]; rfl), HB.out⟩
    | true =>
      go_wp2_with fail
      refine (group_b m3 s _ H3.out hs).mono ?_
      rintro e w1 ⟨rfl, rfl⟩
      cases m3 with
      | true =>
        go_wp2
        go_ret
        exact ⟨ret_int (by rw [w3 _ (.inr (.inr H3.out))]; rfl), HB.out⟩
      | false =>
        have HA := Lib.hid (w_addr (frT d s p dr v t b) H1.out H2.out H3.out)
        by_cases c1 : 7 < p
        · go_wp2
          go_ret
          exact ⟨ret_int (by rw [w4 _ HA.out (.inl c1)]; rfl), HB.out⟩
        by_cases c2 : v = 0
        · have HW := Lib.hid (w4 _ HA.out (.inr (.inl c2)))
          subst c2
          go_wp2
          go_ret
          exact ⟨ret_int (by rw [HW.out]; rfl), HB.out⟩
        by_cases c3 : 4094 < v
        · go_wp2
          go_ret
          exact ⟨ret_int (by rw [w4 _ HA.out (.inr (.inr c3))]; rfl), HB.out⟩
        have HR := Lib.hid (w_range (frT d s p dr v t b) (by show p ≤ 7; omega) (by show 1 ≤ v; omega) (by show v ≤ 4094; omega))
        by_cases c4 : t < 1536
        · go_wp2
          go_ret
          exact ⟨ret_int (by unfold wrongT; rw [if_neg (by rw [HA.out]; simp), if_neg (by rw [HR.out]; simp), if_pos c4]; rfl), HB.out⟩
        have hbl := size_list b
        have HL := Lib.hid hbl; clear hbl
        by_cases c5 : 1582 < b.size
        · go_wp2
          go_ret
          exact ⟨ret_int (by unfold wrongT; rw [if_neg (by rw [HA.out]; simp), if_neg (by rw [HR.out]; simp), if_neg c4, if_pos (by rw [HL.out]; omega)]; rfl), HB.out⟩
        · go_wp2
          go_ret
          exact ⟨ret_int (by unfold wrongT; rw [if_neg (by rw [HA.out]; simp), if_neg (by rw [HR.out]; simp), if_neg c4, if_neg (by rw [HL.out]; omega)]; rfl), HB.out⟩
end Go.Proofs.Yteaghbdeleaanaa.Tg
namespace Go.Proofs.Yteaghbdeleaanaa.Tg
open Go.RowKit Go.Proofs.Yteaghbdeleaanaa.Bt Go.Proofs.Yteaghbdeleaanaa.Mm Go.Proofs.Yteaghbdeleaanaa.Fl Go.Proofs.Yteaghbdeleaanaa.Rf Go.Proofs.Yteaghbdeleaanaa.Hx Go.Proofs.Yteaghbdeleaanaa.Lw Go.Proofs.Yteaghbdeleaanaa.Mc

theorem wrong_at (k : Nat) (d s p v t : Nat) (dr : Bool) (b : ByteArray) (w : World) (h : wrongT (frT d s p dr v t b) = k) (hs : s < 18446744073709551616) (hb : b.size ≤ maxLen) :
    Calls Try.prog 27 #[frV d s p dr v t b] w fun e w' => e = .returned (.int .i64 (k : Nat)) ∧ Below w.heap.size w w' := by
  subst h; exact wrong_any d s p v t dr b w hs hb
/-- a frame's parts -/
abbrev partsT (d s p dn v t : Nat) : List (Int × Nat) := [(48, d), (48, s), (16, 33024), (3, p), (1, dn), (12, v), (16, t)]

set_option maxRecDepth 100000 in
set_option maxHeartbeats 1000000 in
theorem close_any (d s p v t dn : Nat) (dr : Bool) (b : ByteArray) (hb' : List UInt8) (w : World) (hs : s < 18446744073709551616) (hb : b.size ≤ maxLen)
    (hdn : (if dr = true then 1 else 0) = dn) (hw : wrongT (frT d s p dr v t b) = 0) (hp : packR (partsT d s p dn v t) = (hb', 0)) (hv : ∀ q ∈ partsT d s p dn v t, q.2 < 18446744073709551616) (hp8 : p < 256) (hv16 : v < 65536) (ht16 : t < 65536) (hsz : b.size ≤ 2000) (hsz2 : hb'.length ≤ 100) :
    Calls Try.prog 18 #[frV d s p dr v t b] w fun e w' => e = .returned (.tuple #[.string (⟨hb'.toArray⟩ ++ b), .int .i64 0]) ∧ Below w.heap.size w w' := by
  have HN := Lib.hid hdn; clear hdn
  have HW := Lib.hid hw; clear hw
  have HP := Lib.hid hp; clear hp
  have HV := Lib.hid hv; clear hv
  have hs2 : (⟨hb'.toArray⟩ : ByteArray).size ≤ 100 := by show hb'.toArray.size ≤ 100; simpa using hsz2
  generalize hBs : (⟨hb'.toArray⟩ : ByteArray) = bs at hs2 ⊢
  have HBs := Lib.hid hBs; clear hBs
  go_enter Try.func18, Try.ntmps18
  go_wp2_with fail
  refine (wrong_at 0 d s p v t dr b _ HW.out hs hb).mono ?_
  rintro e w1 ⟨rfl, hb1⟩
  have hbk := (Blk.fresh w 27 #[.int .u64 (d : Int), .int .u64 (s : Int), .int .u8 (p : Int), .bool dr, .int .u16 (v : Int), .int .u16 (t : Int), .string b]).below hb1 (by simp)
  have c0 := hbk.cell 0
  have c1 := hbk.cell 1
  have c2 := hbk.cell 2
  have c3 := hbk.cell 3
  have c4 := hbk.cell 4
  have c5 := hbk.cell 5
  have c6 := hbk.cell 6
  simp at c0 c1 c2 c3 c4 c5 c6
  have HB1 := Lib.hid ((((Below.refl w.heap.size w).alloc (Nat.le_refl _) (.cells #[.int .u64 (d : Int), .int .u64 (s : Int), .int .u8 (p : Int), .bool dr, .int .u16 (v : Int), .int .u16 (t : Int), .string b] 27))).trans (hb1.mono (by simp)))
  have HK := Lib.hid hbk
  clear hb1 hbk
  go_wp2_with fail
  have q1 : IntKind.u64.wrap (p : Int) = (p : Int) := IntWalk.u64_in _ ⟨by omega, by omega⟩
  have q2 : IntKind.u64.wrap (v : Int) = (v : Int) := IntWalk.u64_in _ ⟨by omega, by omega⟩
  have q3 : IntKind.u64.wrap (t : Int) = (t : Int) := IntWalk.u64_in _ ⟨by omega, by omega⟩
  have hlo : w.heap.size < w1.heap.size := HK.out.lt
  go_region_held3 (fun w' => w'.cell? ⟨w.heap.size, 0, none⟩ = some (.int .u64 (d : Int)) ∧ w'.cell? ⟨w.heap.size, 1, none⟩ = some (.int .u64 (s : Int)) ∧ w'.cell? ⟨w.heap.size, 2, none⟩ = some (.int .u8 (p : Int)) ∧ w'.cell? ⟨w.heap.size, 3, none⟩ = some (.bool dr) ∧ w'.cell? ⟨w.heap.size, 4, none⟩ = some (.int .u16 (v : Int)) ∧ w'.cell? ⟨w.heap.size, 5, none⟩ = some (.int .u16 (t : Int))) (first | exact ⟨c0, c1, c2, c3, c4, c5⟩ | exact ⟨cell_al c0 hlo, cell_al c1 hlo, cell_al c2 hlo, cell_al c3 hlo, cell_al c4 hlo, cell_al c5 hlo⟩ | exact ⟨cell_ab c0 hb3 hlo, cell_ab c1 hb3 hlo, cell_ab c2 hb3 hlo, cell_ab c3 hb3 hlo, cell_ab c4 hb3 hlo, cell_ab c5 hb3 hlo⟩)
    (first | (go_at_call 29; refine (drop_any dr dn _ HN.out).mono ?_; rintro e w2 ⟨rfl, rfl⟩) | (go_at_call 28; refine (pack_blk (partsT d s p dn v t) _ _ _ _ _ _ _ _ (Blk.fresh _ _ _).drew rfl rfl (by simp) HV.out HP.out).mono ?_; rintro e w3 ⟨rfl, hb3⟩))
  have e6 := cell_ab c6 hb3 hlo
  have HB3 := Lib.hid (below_ab HB1.out (by omega) hb3)
  rw [HBs.out]
  clear hb3 c0 c1 c2 c3 c4 c5 c6 q1 q2 q3
  go_wp2
  go_ret2
  exact ⟨rfl, HB3.out⟩
set_option maxHeartbeats 1000000 in
theorem close_no (k d s p v t : Nat) (dr : Bool) (b : ByteArray) (w : World) (hs : s < 18446744073709551616) (hb : b.size ≤ maxLen) (hw : wrongT (frT d s p dr v t b) = k) (hk : k ≠ 0) :
    Calls Try.prog 18 #[frV d s p dr v t b] w fun e w' => e = .returned (.tuple #[.string ⟨#[]⟩, .int .i64 (k : Int)]) ∧ Below w.heap.size w w' := by
  have HW := Lib.hid hw; clear hw
  have hk0 : ((k : Int) != 0) = true := by simp [hk]
  go_enter Try.func18, Try.ntmps18
  go_wp2_with fail
  refine (wrong_at k d s p v t dr b _ HW.out hs hb).mono ?_
  rintro e w1 ⟨rfl, hb1⟩
  have HB1 := Lib.hid ((((Below.refl w.heap.size w).alloc (Nat.le_refl _) (.cells #[.int .u64 (d : Int), .int .u64 (s : Int), .int .u8 (p : Int), .bool dr, .int .u16 (v : Int), .int .u16 (t : Int), .string b] 27))).trans (hb1.mono (by simp)))
  clear hb1
  go_wp2
  go_ret2
  exact ⟨rfl, HB1.out⟩
end Go.Proofs.Yteaghbdeleaanaa.Tg
namespace Go.Proofs.Yteaghbdeleaanaa.Tg
open Go.RowKit Go.Proofs.Yteaghbdeleaanaa.Bt Go.Proofs.Yteaghbdeleaanaa.Mm Go.Proofs.Yteaghbdeleaanaa.Fl Go.Proofs.Yteaghbdeleaanaa.Rf Go.Proofs.Yteaghbdeleaanaa.Hx Go.Proofs.Yteaghbdeleaanaa.Lw Go.Proofs.Yteaghbdeleaanaa.Mc

theorem mark_bytes : bytesOf (bitsN 33024 16) = [0x81, 0] := by decide +kernel
/-- the bytes of a frame ahead of its body -/
def headBytes (d s n t : Nat) : List UInt8 := putB d 6 ++ (putB s 6 ++ ([0x81, 0] ++ (putB n 2 ++ putB t 2)))
theorem bits_tag (p dn v : Nat) (hdn : dn < 2) (hv : v < 4096) : bitsN p 3 ++ (bitsN dn 1 ++ bitsN v 12) = bitsN (p * 8192 + dn * 4096 + v) 16 := by
  rw [← bitsN_join dn v 1 12 (by simpa using hv), ← bitsN_join p (dn * 2 ^ 12 + v) 3 (1 + 12) (by simp; omega)]
  rw [show p * 2 ^ (1 + 12) + (dn * 2 ^ 12 + v) = p * 8192 + dn * 4096 + v by omega]
theorem pack_frame (d s p dn v t : Nat) (hd : d < 281474976710656) (hs : s < 281474976710656) (hp : p ≤ 7) (hdn : dn < 2) (hv : v < 4096) (ht : t < 65536) :
    packR (partsT d s p dn v t) = (headBytes d s (p * 8192 + dn * 4096 + v) t, 0) := by
  have e : allBits (partsT d s p dn v t) = bitsN d 48 ++ (bitsN s 48 ++ (bitsN 33024 16 ++ (bitsN (p * 8192 + dn * 4096 + v) 16 ++ bitsN t 16))) := by
    rw [← bits_tag p dn v hdn hv]
    simp [allBits]
  have hok : (partsT d s p dn v t).all okP = true := by
    simp only [List.all_cons, List.all_nil, Bool.and_true, Bool.and_eq_true, okP, decide_eq_true_eq]
    refine ⟨⟨by omega, by omega, ?_⟩, ⟨by omega, by omega, ?_⟩, ⟨by omega, by omega, ?_⟩, ⟨by omega, by omega, ?_⟩, ⟨by omega, by omega, ?_⟩, ⟨by omega, by omega, ?_⟩, ⟨by omega, by omega, ?_⟩⟩ <;> simp <;> omega
  have hl : (allBits (partsT d s p dn v t)).length = 144 := by rw [e]; simp [length_bitsN]
  have b16 : ∀ x, (bitsN x 16).length % 8 = 0 := fun x => by rw [length_bitsN]
  have b48 : ∀ x, (bitsN x 48).length % 8 = 0 := fun x => by rw [length_bitsN]
  have bb : ∀ {a b : List Nat}, Bin a → Bin b → Bin (a ++ b) := fun ha hb x hx => by rcases List.mem_append.1 hx with h | h; exact ha x h; exact hb x h
  have l8 : ∀ {a b : List Nat}, a.length % 8 = 0 → b.length % 8 = 0 → (a ++ b).length % 8 = 0 := fun ha hb => by rw [List.length_append]; omega
  have B := fun x n => bin_bitsN x n
  unfold packR
  rw [if_pos hok, if_pos (by rw [hl]), e]
  rw [bytesOf_append (B _ _) (bb (B _ _) (bb (B _ _) (bb (B _ _) (B _ _)))) (b48 _) (l8 (b48 _) (l8 (b16 _) (l8 (b16 _) (b16 _)))),
    bytesOf_append (B _ _) (bb (B _ _) (bb (B _ _) (B _ _))) (b48 _) (l8 (b16 _) (l8 (b16 _) (b16 _))),
    bytesOf_append (B _ _) (bb (B _ _) (B _ _)) (b16 _) (l8 (b16 _) (b16 _)), bytesOf_append (B _ _) (B _ _) (b16 _) (b16 _), mark_bytes]
  rfl
theorem length_head (d s n t : Nat) : (headBytes d s n t).length = 18 := by simp [headBytes, length_putB]
theorem frame_head (f : Fr) (hd : f.dst < 281474976710656) (hs : f.src < 281474976710656) : frameBytes f = headBytes f.dst f.src (tci f) f.type ++ f.body := by
  unfold frameBytes headBytes
  rw [bytesM_put hd, bytesM_put hs]
  simp
theorem app_list (l : List UInt8) (b : ByteArray) : (⟨l.toArray⟩ : ByteArray) ++ b = ⟨(l ++ b.data.toList).toArray⟩ := by
  apply ba_ext
  rw [list_app, data_list, data_list]
theorem wrongT_zero {f : Fr} (h : wrongT f = 0) : badAddr f = false ∧ badRange f = false ∧ 1536 ≤ f.type ∧ 18 + f.body.length ≤ 1600 := by
  have e := closeT_wrong f
  rw [if_pos h] at e
  have := closeT_zero e
  exact ⟨this.1, this.2.1, this.2.2.1, this.2.2.2.1⟩

theorem close_at {bs : List UInt8} {k : Nat} (d s p v t : Nat) (dr : Bool) (b : ByteArray) (w : World) (h : closeT (frT d s p dr v t b) = (bs, k)) (hs : s < 18446744073709551616) (hp8 : p < 256) (hv16 : v < 65536) (ht16 : t < 65536) (hb : b.size ≤ maxLen) :
    Calls Try.prog 18 #[frV d s p dr v t b] w fun e w' => e = .returned (.tuple #[.string ⟨bs.toArray⟩, .int .i64 (k : Int)]) ∧ Below w.heap.size w w' := by
  rw [closeT_wrong] at h
  by_cases hw : wrongT (frT d s p dr v t b) = 0
  · rw [if_pos hw] at h
    simp only [Prod.mk.injEq] at h
    obtain ⟨rfl, rfl⟩ := h
    obtain ⟨ha, hr, hty, hln⟩ := wrongT_zero hw
    obtain ⟨hd, hs', _⟩ := addr_parts ha
    obtain ⟨hp, hv1, hv2⟩ := range_parts hr
    simp only at hd hs' hp hv1 hv2 hln
    rw [size_list] at hln
    obtain ⟨dn, hdn⟩ : ∃ dn, (if dr = true then 1 else 0) = dn := ⟨_, rfl⟩
    have hdn2 : dn < 2 := by rw [← hdn]; split <;> omega
    have hpk := pack_frame d s p dn v t hd hs' hp hdn2 (by omega) ht16
    have hv : ∀ q ∈ partsT d s p dn v t, q.2 < 18446744073709551616 := by
      intro q hq
      simp only [List.mem_cons, List.not_mem_nil, or_false] at hq
      rcases hq with rfl | rfl | rfl | rfl | rfl | rfl | rfl <;> simp only <;> omega
    have := close_any d s p v t dn dr b _ w hs hb hdn hw hpk hv hp8 hv16 ht16 (by omega) (by rw [length_head]; omega)
    have e : frameBytes (frT d s p dr v t b) = headBytes d s (p * 8192 + dn * 4096 + v) t ++ b.data.toList := by
      rw [frame_head _ hd hs']
      have : tci (frT d s p dr v t b) = p * 8192 + dn * 4096 + v := by
        unfold tci
        simp only
        rw [← hdn]
        split <;> omega
      rw [this]
    rw [e, ← app_list]
    exact this
  · rw [if_neg hw] at h
    simp only [Prod.mk.injEq] at h
    obtain ⟨rfl, rfl⟩ := h
    exact close_no _ d s p v t dr b w hs hb rfl hw
end Go.Proofs.Yteaghbdeleaanaa.Tg
namespace Go.Proofs.Yteaghbdeleaanaa.Tg
open Go.RowKit Go.Proofs.Yteaghbdeleaanaa.Bt Go.Proofs.Yteaghbdeleaanaa.Mm Go.Proofs.Yteaghbdeleaanaa.Fl Go.Proofs.Yteaghbdeleaanaa.Rf Go.Proofs.Yteaghbdeleaanaa.Hx Go.Proofs.Yteaghbdeleaanaa.Lw Go.Proofs.Yteaghbdeleaanaa.Mc

theorem keep7 {w w' : World} {g : Nat} {x0 x1 x2 x3 x4 x5 x6 : Value} (hb : Below w.heap.size w w')
    (h : g < w.heap.size ∧ w.cell? ⟨g, 0, none⟩ = some x0 ∧ w.cell? ⟨g, 1, none⟩ = some x1 ∧ w.cell? ⟨g, 2, none⟩ = some x2 ∧ w.cell? ⟨g, 3, none⟩ = some x3 ∧ w.cell? ⟨g, 4, none⟩ = some x4 ∧ w.cell? ⟨g, 5, none⟩ = some x5 ∧ w.cell? ⟨g, 6, none⟩ = some x6) :
    g < w'.heap.size ∧ w'.cell? ⟨g, 0, none⟩ = some x0 ∧ w'.cell? ⟨g, 1, none⟩ = some x1 ∧ w'.cell? ⟨g, 2, none⟩ = some x2 ∧ w'.cell? ⟨g, 3, none⟩ = some x3 ∧ w'.cell? ⟨g, 4, none⟩ = some x4 ∧ w'.cell? ⟨g, 5, none⟩ = some x5 ∧ w'.cell? ⟨g, 6, none⟩ = some x6 := by
  obtain ⟨hg, h0, h1, h2, h3, h4, h5, h6⟩ := h
  exact ⟨Nat.lt_of_lt_of_le hg hb.size, cell_be h0 hb hg, cell_be h1 hb hg, cell_be h2 hb hg, cell_be h3 hb hg, cell_be h4 hb hg, cell_be h5 hb hg, cell_be h6 hb hg⟩
theorem fresh7 (w : World) (t : TypeId) (x0 x1 x2 x3 x4 x5 x6 : Value) : w.heap.size < (w.alloc (.cells #[x0, x1, x2, x3, x4, x5, x6] t)).heap.size ∧ (w.alloc (.cells #[x0, x1, x2, x3, x4, x5, x6] t)).cell? ⟨w.heap.size, 0, none⟩ = some x0 ∧ (w.alloc (.cells #[x0, x1, x2, x3, x4, x5, x6] t)).cell? ⟨w.heap.size, 1, none⟩ = some x1 ∧
    (w.alloc (.cells #[x0, x1, x2, x3, x4, x5, x6] t)).cell? ⟨w.heap.size, 2, none⟩ = some x2 ∧ (w.alloc (.cells #[x0, x1, x2, x3, x4, x5, x6] t)).cell? ⟨w.heap.size, 3, none⟩ = some x3 ∧ (w.alloc (.cells #[x0, x1, x2, x3, x4, x5, x6] t)).cell? ⟨w.heap.size, 4, none⟩ = some x4 ∧
    (w.alloc (.cells #[x0, x1, x2, x3, x4, x5, x6] t)).cell? ⟨w.heap.size, 5, none⟩ = some x5 ∧ (w.alloc (.cells #[x0, x1, x2, x3, x4, x5, x6] t)).cell? ⟨w.heap.size, 6, none⟩ = some x6 := by
  have h := Blk.fresh w t #[x0, x1, x2, x3, x4, x5, x6]
  exact ⟨h.lt, h.cell 0, h.cell 1, h.cell 2, h.cell 3, h.cell 4, h.cell 5, h.cell 6⟩
end Go.Proofs.Yteaghbdeleaanaa.Tg
namespace Go.Proofs.Yteaghbdeleaanaa.Tg
open Go.RowKit Go.Proofs.Yteaghbdeleaanaa.Bt Go.Proofs.Yteaghbdeleaanaa.Mm Go.Proofs.Yteaghbdeleaanaa.Fl Go.Proofs.Yteaghbdeleaanaa.Rf Go.Proofs.Yteaghbdeleaanaa.Hx Go.Proofs.Yteaghbdeleaanaa.Lw Go.Proofs.Yteaghbdeleaanaa.Mc

theorem awake_close : closeT (frT 281474976710655 2 5 false 100 2048 ⟨#[120]⟩) = ([255, 255, 255, 255, 255, 255, 0, 0, 0, 0, 0, 2, 129, 0, 160, 100, 8, 0, 120], 0) := by decide +kernel

set_option maxRecDepth 100000 in
set_option maxHeartbeats 400000 in
theorem awake3 (w : World) : Calls Try.prog 9 #[] w fun e w' => e = .returned (.bool true) ∧ Below w.heap.size w w' := by
  have hx : ((⟨#[255, 255, 255, 255, 255, 255, 0, 0, 0, 0, 0, 2, 129, 0, 160, 100, 8, 0, 120]⟩ : ByteArray).extract 12 16).toList = [129, 0, 160, 100] := by decide +kernel
  go_enter Try.func9, Try.ntmps9
  go_wp2_with fail
  refine (close_at 281474976710655 2 5 100 2048 false ⟨#[120]⟩ w awake_close (by omega) (by omega) (by omega) (by omega) (by unfold maxLen; decide)).mono ?_
  rintro e w1 ⟨rfl, hb1⟩
  have HB1 := Lib.hid hb1; clear hb1
  go_wp2_with fail
  refine (awake2 w1).mono ?_
  rintro e w2 ⟨rfl, hb2⟩
  have HB2 := Lib.hid (HB1.out.trans (hb2.mono HB1.out.size)); clear hb2
  go_wp2
  go_ret
  exact ⟨rfl, HB2.out⟩

end Go.Proofs.Yteaghbdeleaanaa.Tg
namespace Go.Proofs.Yteaghbdeleaanaa.Op
open Go.ChangeShapes Go.WideShapes Go.ChangeAt Go.RowKit Go.Deep
open Go.Proofs.Yteaghbdeleaanaa.Mm Go.Proofs.Yteaghbdeleaanaa.Fl

theorem arr7 {cs : Array Value} {x0 x1 x2 x3 x4 x5 x6 : Value} (hs : cs.size = 7) (h0 : cs[0]? = some x0) (h1 : cs[1]? = some x1) (h2 : cs[2]? = some x2) (h3 : cs[3]? = some x3) (h4 : cs[4]? = some x4) (h5 : cs[5]? = some x5) (h6 : cs[6]? = some x6) : cs = #[x0, x1, x2, x3, x4, x5, x6] := by
  obtain ⟨l⟩ := cs
  match l, hs with
  | [c0, c1, c2, c3, c4, c5, c6], _ =>
    simp at h0 h1 h2 h3 h4 h5 h6
    subst h0 h1 h2 h3 h4 h5 h6
    rfl
set_option maxRecDepth 100000 in
theorem open_frame {H : Type} {enc : TypeId × Value → H} {W : World} {r : Reach} {b0 : Nat} {x : Value} {y : DataW H} {ms : List MemPlace} (hv : Value.okWide Try.prog W r b0 27 x) (h : DataW.Trod enc Try.prog W 0 (fun _ => true) true 27 x y ms) :
    ∃ (d s p v t : Nat) (dr : Bool) (b : ByteArray), x = Tg.frV d s p dr v t b ∧ d < 18446744073709551616 ∧ s < 18446744073709551616 ∧ p < 256 ∧ v < 65536 ∧ t < 65536 ∧ b.size ≤ maxLen := by
  obtain ⟨cs, n, rfl, hsz, hf⟩ := fields_of Try.underlying27 (by kernel_rfl) (by kernel_rfl) hv h
  obtain ⟨u0, y0, g0, t0⟩ := hf 0 _ rfl
  obtain ⟨u1, y1, g1, t1⟩ := hf 1 _ rfl
  obtain ⟨u2, y2, g2, t2⟩ := hf 2 _ rfl
  obtain ⟨u3, y3, g3, t3⟩ := hf 3 _ rfl
  obtain ⟨u4, y4, g4, t4⟩ := hf 4 _ rfl
  obtain ⟨u5, y5, g5, t5⟩ := hf 5 _ rfl
  obtain ⟨u6, y6, g6, t6⟩ := hf 6 _ rfl
  obtain ⟨a0, rfl, w0⟩ := int_at Try.underlying25 t0
  obtain ⟨a1, rfl, w1⟩ := int_at Try.underlying25 t1
  obtain ⟨a2, rfl, w2⟩ := int_at Try.underlying5 t2
  obtain ⟨a3, rfl⟩ := bool_at Try.underlying4 t3
  obtain ⟨a4, rfl, w4⟩ := int_at Try.underlying23 t4
  obtain ⟨a5, rfl, w5⟩ := int_at Try.underlying23 t5
  obtain ⟨a6, rfl, w6⟩ := str_at Try.underlying9 t6
  obtain ⟨d, rfl, hd⟩ := u64_of w0
  obtain ⟨s, rfl, hs⟩ := u64_of w1
  obtain ⟨p, rfl, hp⟩ := u8_of w2
  obtain ⟨v, rfl, hv'⟩ := u16_of w4
  obtain ⟨t, rfl, ht⟩ := u16_of w5
  exact ⟨d, s, p, v, t, a3, a6, congrArg Value.agg (arr7 hsz g0 g1 g2 g3 g4 g5 g6), hd, hs, hp, hv', ht, w6⟩
end Go.Proofs.Yteaghbdeleaanaa.Op
