/-
  Tables: what a key reads as, what an element reads as; a map that reads as rows by rising keys.
-/
import Derived.Test.YtljkodfdiebfiaaFdbA
import Derived.Maps.OwnSet
import Derived.Maps.RangeWalk
import Derived.DeepKeys4
namespace Go.Proofs.Ytljkodfdiebfiaa.Fd
open Go.RowKit Go.Maps Go.Proofs.Ytljkodfdiebfiaa.Mm

/-! ### a key's bytes stand in the order of VLAN and address -/
theorem bb_app : ∀ (x y r s : List UInt8), x.length = y.length → bytesBefore (x ++ r) (y ++ s) = (bytesBefore x y || (x == y && bytesBefore r s))
  | [], [], r, s, _ => by simp [bytesBefore]
  | a :: x, b :: y, r, s, h => by
    have ih := bb_app x y r s (by simpa using h)
    simp only [List.cons_append, bytesBefore, ih]
    by_cases hab : a = b
    · subst hab
      simp only [BEq.rfl, Bool.true_and, UInt8.lt_irrefl, decide_false, Bool.false_or, List.cons_beq_cons]
    · have h1 : (a == b) = false := by simpa using hab
      have h2 : ((a :: x) == (b :: y)) = false := by simp [hab]
      simp only [h1, h2, Bool.false_and, Bool.or_false]
  | [], b :: y, _, _, h => by simp at h
  | a :: x, [], _, _, h => by simp at h
theorem le_len : ∀ (w n : Nat), (bytesLE w n).length = w
  | 0, _ => rfl
  | w + 1, n => by simp [bytesLE, le_len w]
theorem be_len (w n : Nat) : (bytesBE w n).length = w := by simp [bytesBE, le_len]
theorem be_succ (w n : Nat) : bytesBE (w + 1) n = bytesBE w (n / 256) ++ [UInt8.ofNat (n % 256)] := by simp [bytesBE, bytesLE]
theorem be_inj : ∀ (w : Nat) {a b : Nat}, a < 256 ^ w → b < 256 ^ w → bytesBE w a = bytesBE w b → a = b
  | 0, a, b, ha, hb, _ => by simp at ha hb; omega
  | w + 1, a, b, ha, hb, h => by
    rw [be_succ, be_succ] at h
    obtain ⟨h1, h2⟩ := List.append_inj h (by rw [be_len, be_len])
    have e1 := be_inj w (a := a / 256) (b := b / 256) (by rw [Nat.div_lt_iff_lt_mul (by decide)]; rw [Nat.pow_succ] at ha; exact ha) (by rw [Nat.div_lt_iff_lt_mul (by decide)]; rw [Nat.pow_succ] at hb; exact hb) h1
    have e2 : a % 256 = b % 256 := by
      simp only [List.cons.injEq, and_true] at h2
      have := congrArg UInt8.toNat h2
      simpa [UInt8.toNat_ofNat, Nat.mod_mod] using this
    omega
theorem be_before : ∀ (w : Nat) {a b : Nat}, a < 256 ^ w → b < 256 ^ w → bytesBefore (bytesBE w a) (bytesBE w b) = decide (a < b)
  | 0, a, b, ha, hb => by
    have : a = 0 := by simpa using ha
    have : b = 0 := by simpa using hb
    subst a b
    rfl
  | w + 1, a, b, ha, hb => by
    have ha' : a / 256 < 256 ^ w := by rw [Nat.div_lt_iff_lt_mul (by decide)]; rw [Nat.pow_succ] at ha; exact ha
    have hb' : b / 256 < 256 ^ w := by rw [Nat.div_lt_iff_lt_mul (by decide)]; rw [Nat.pow_succ] at hb; exact hb
    rw [be_succ, be_succ, bb_app _ _ _ _ (by rw [be_len, be_len]), be_before w ha' hb']
    have hl : bytesBefore [UInt8.ofNat (a % 256)] [UInt8.ofNat (b % 256)] = decide (a % 256 < b % 256) := by
      simp only [bytesBefore, Bool.and_false, Bool.or_false]
      have : (UInt8.ofNat (a % 256) < UInt8.ofNat (b % 256)) ↔ a % 256 < b % 256 := by
        rw [UInt8.lt_iff_toNat_lt]
        simp
      exact decide_eq_decide.2 this
    rw [hl]
    by_cases e : bytesBE w (a / 256) = bytesBE w (b / 256)
    · have e1 := be_inj w ha' hb' e
      rw [e]
      simp only [BEq.rfl, Bool.true_and]
      rw [← Bool.decide_or, decide_eq_decide]
      omega
    · have e1 : (bytesBE w (a / 256) == bytesBE w (b / 256)) = false := by simpa using e
      have e2 : a / 256 ≠ b / 256 := fun k => e (by rw [k])
      simp only [e1, Bool.false_and, Bool.or_false]
      rw [decide_eq_decide]
      omega
/-- what a key reads as -/
def kl (v a : Nat) : Lit := .string (bytesBE 2 v ++ bytesBE 8 a)
abbrev InK (v a : Nat) : Prop := v < 65536 ∧ a < 18446744073709551616
theorem kl_key (v a : Nat) : WideAt.IsKeyLit (kl v a) := trivial
theorem kl_before {v a v' a' : Nat} (h : InK v a) (h' : InK v' a') : (kl v a).before (kl v' a') = decide (v < v' ∨ v = v' ∧ a < a') := by
  show bytesBefore _ _ = _
  rw [bb_app _ _ _ _ (by rw [be_len, be_len]), be_before 2 h.1 h'.1, be_before 8 h.2 h'.2]
  by_cases e : v = v'
  · subst e; simp
  · have : (bytesBE 2 v == bytesBE 2 v') = false := by
      simp only [beq_eq_false_iff_ne, ne_eq]
      exact fun k => e (be_inj 2 h.1 h'.1 k)
    simp [this, e]
theorem kl_inj {v a v' a' : Nat} (h : InK v a) (h' : InK v' a') (e : kl v a = kl v' a') : v = v' ∧ a = a' := by
  unfold kl at e
  injection e with e
  obtain ⟨h1, h2⟩ := List.append_inj e (by rw [be_len, be_len])
  exact ⟨be_inj 2 h.1 h'.1 h1, be_inj 8 h.2 h'.2 h2⟩
theorem kl_same {v a v' a' : Nat} (h : InK v a) (h' : InK v' a') : (kl v a).sameKey (kl v' a') = decide (v = v' ∧ a = a') := by
  by_cases e : v = v' ∧ a = a'
  · obtain ⟨rfl, rfl⟩ := e
    simp [WideAt.sameKey_self (kl_key v a)]
  · rw [sameKey_ne (fun k => e (kl_inj h h' k))]
    simp [e]

/-! ### rows as a map's reading -/
/-- what an element reads as -/
def sg (p s : Int) : DataW Unit := .agg [.lit (.int .i64 p), .lit (.int .i64 s)]
def ent (x : Fr) : Lit × DataW Unit := (kl x.vlan x.addr, sg x.port x.seen)
def toD (l : List Fr) : DataW Unit := .map (l.map ent)
abbrev okK (x : Fr) : Prop := InK x.vlan x.addr
theorem toD_size (l : List Fr) : Maps.size (toD l) = l.length := by simp [toD, Maps.size]
theorem ent_same {x : Fr} (hx : okK x) {v a : Nat} (h : InK v a) : (ent x).1.sameKey (kl v a) = decide (x.vlan = v ∧ x.addr = a) := kl_same hx h
theorem toD_has {v a : Nat} (h : InK v a) : ∀ {l : List Fr}, (∀ x ∈ l, okK x) → Maps.has (toD l) (kl v a) = (findK l v a).isSome
  | [], _ => rfl
  | x :: l, hl => by
    have ih := toD_has h (l := l) (fun y hy => hl y (List.mem_cons_of_mem _ hy))
    simp only [toD, Maps.has, List.map_cons, List.any_cons] at ih ⊢
    rw [ih, ent_same (hl x List.mem_cons_self) h]
    unfold findK
    rw [List.find?_cons]
    by_cases e : x.vlan = v ∧ x.addr = a
    · simp [e]
    · simp [e]
theorem toD_at {v a : Nat} (h : InK v a) (z : DataW Unit) : ∀ {l : List Fr}, (∀ x ∈ l, okK x) → (toD l).atKey (kl v a) z = match findK l v a with | some x => sg x.port x.seen | none => z
  | [], _ => rfl
  | x :: l, hl => by
    have ih := toD_at h z (l := l) (fun y hy => hl y (List.mem_cons_of_mem _ hy))
    unfold findK
    simp only [toD, DataW.atKey, List.map_cons, List.find?_cons] at ih ⊢
    rw [ent_same (hl x List.mem_cons_self) h]
    by_cases e : x.vlan = v ∧ x.addr = a
    · simp [e, ent]
    · simp only [e, decide_false]
      exact ih
theorem filter_map_ent (l : List Fr) (f : Lit × DataW Unit → Bool) : (l.map ent).filter f = (l.filter (fun x => f (ent x))).map ent := by
  rw [List.filter_map]; rfl
theorem toD_del {v a : Nat} (h : InK v a) {l : List Fr} (hl : ∀ x ∈ l, okK x) : (toD l).del (kl v a) = toD (l.filter (fun x => !decide (x.vlan = v ∧ x.addr = a))) := by
  show DataW.map _ = DataW.map _
  rw [filter_map_ent]
  congr 2
  exact List.filter_congr fun x hx => by rw [ent_same (hl x hx) h]
theorem insert_ent {x : Fr} (hx : okK x) : ∀ {l : List Fr}, Rising l → (∀ y ∈ l, okK y) → (∀ y ∈ l, ¬ ksame y x) → DataW.insert (ent x) (l.map ent) = (l.filter (fun y => decide (klt y x)) ++ x :: l.filter (fun y => decide (klt x y))).map ent
  | [], _, _, _ => rfl
  | y :: l, hr, hk, hn => by
    obtain ⟨h1, h2⟩ := List.pairwise_cons.1 hr
    have ih := insert_ent hx h2 (fun z hz => hk z (List.mem_cons_of_mem _ hz)) (fun z hz => hn z (List.mem_cons_of_mem _ hz))
    have hb : (ent x).1.before (ent y).1 = decide (klt x y) := kl_before hx (hk y List.mem_cons_self)
    rw [List.map_cons]
    unfold DataW.insert
    rw [hb]
    rcases klt_or x y with g | g | g
    · have hg : ¬ klt y x := klt_not g
      have e1 : l.filter (fun z => decide (klt z x)) = [] := by
        rw [List.filter_eq_nil_iff]
        intro z hz hz2
        simp only [decide_eq_true_eq] at hz2
        exact hg (klt_trans (h1 z hz) hz2)
      have e2 : l.filter (fun z => decide (klt x z)) = l := by
        rw [List.filter_eq_self]
        intro z hz
        simpa using klt_trans g (h1 z hz)
      rw [if_pos (by simpa using g), List.filter_cons_of_neg (by simpa using hg), List.filter_cons_of_pos (by simpa using g), e1, e2]
      rfl
    · exact absurd ⟨g.1.symm, g.2.symm⟩ (hn y List.mem_cons_self)
    · have hg : ¬ klt x y := klt_not g
      rw [if_neg (by simpa using hg), List.filter_cons_of_pos (by simpa using g), List.filter_cons_of_neg (by simpa using hg), ih]
      rfl
theorem toD_put {x : Fr} (hx : okK x) {l : List Fr} (hr : Rising l) (hl : ∀ y ∈ l, okK y) : (toD l).put (kl x.vlan x.addr) (sg x.port x.seen) = toD (ins l x) := by
  show DataW.map (DataW.insert (ent x) ((l.map ent).filter _)) = DataW.map _
  rw [filter_map_ent, List.filter_congr (q := fun y => !decide (ksame y x)) (fun y hy => by rw [ent_same (hl y hy) hx]; rfl), insert_ent hx (hr.filter _) (fun y hy => hl y (List.mem_filter.1 hy).1) (fun y hy => by simpa using (List.mem_filter.1 hy).2)]
  unfold ins
  rw [taken hr, List.filter_filter, List.filter_filter]
  congr 2
  have e1 : l.filter (fun y => decide (klt y x) && !decide (ksame y x)) = l.filter (fun y => decide (klt y x)) := List.filter_congr fun y _ => by
    by_cases g : klt y x
    · simp [g, klt_ne g]
    · simp [g]
  have e2 : l.filter (fun y => decide (klt x y) && !decide (ksame y x)) = l.filter (fun y => decide (klt x y)) := List.filter_congr fun y _ => by
    by_cases g : klt x y
    · have : ¬ ksame y x := fun k => klt_ne g ⟨k.1.symm, k.2.symm⟩
      simp [g, this]
    · simp [g]
  rw [e1, e2]

/-! ### the program's keys and elements -/
abbrev keyV (v a : Nat) : Value := .agg #[.int .u16 (v : Int), .int .u64 (a : Int)]
abbrev sgV (p s : Int) : Value := .agg #[.int .i64 p, .int .i64 s]
/-- how an element reads -/
def Rs : Value → Option (DataW Unit × List MemPlace)
  | .agg ⟨[.int .i64 p, .int .i64 s]⟩ => some (sg p s, [])
  | _ => none
theorem rs_mk (p s : Int) : Rs (sgV p s) = some (sg p s, []) := rfl
theorem rs_inv {v : Value} {y : DataW Unit × List MemPlace} (h : Rs v = some y) : ∃ q : Int × Int, v = sgV q.1 q.2 ∧ y = (sg q.1 q.2, []) := by
  unfold Rs at h
  split at h
  · rename_i p s
    injection h with h
    exact ⟨(p, s), rfl, h.symm⟩
  · cases h
theorem sg_inj {p s p' s' : Int} (h : sg p s = sg p' s') : p = p' ∧ s = s' := by
  unfold sg at h
  simpa using h
theorem laidOut : laidOutB Try.prog = true := by kernel_rfl
theorem wideK : (match Try.prog.underlying 53 with | some (.array _ _) | some (.struct _) => true | _ => false) = true := by rw [Try.underlying53]
theorem zeroS (w : World) : (zeroValue 55).run Try.prog w = .ok (sgV 0 0) w := by kernel_rfl
theorem rowK : (53 : TypeId) < Try.prog.types.size := of_decide_eq_true (by kernel_rfl)
theorem deepK : Try.prog.keyTypeAt 2 53 = true := by kernel_rfl
theorem typeK : Try.prog.keyType 53 = true := by kernel_rfl
theorem cellsK : Try.prog.cellsOf 53 = 2 := by kernel_rfl
theorem three : 2 + 1 ≤ 10000 := by omega
set_option maxRecDepth 100000 in
theorem law : Keyed Try.prog 53 := Keyed.of_law (deep_law_laid laidOut (m := 2) three rowK deepK wideK)
theorem formedK {c0 c1 : Value} : (Value.agg #[c0, c1]).formed Try.prog 53 = true := by simp [Value.formed, Try.underlying53, cellsK]
theorem sizeT : ∃ m, Try.prog.types.size = m + 1 := ⟨Try.prog.types.size - 1, by kernel_rfl⟩
theorem cells16 : Try.prog.cellsOf 35 = 1 := by kernel_rfl
theorem cellsA : Try.prog.cellsOf 40 = 1 := by kernel_rfl
theorem litsK {v a : Nat} (h : InK v a) (m : Nat) : Try.prog.keyLits (m + 2) 53 [.int .u16 (v : Int), .int .u64 (a : Int)] = some [.int .u16 (v : Int), .int .u64 (a : Int)] := by
  have w1 : (Lit.int .u16 (v : Int)).wf = true := by simp [Lit.wf, IntKind.min, IntKind.max, IntKind.bits, IntKind.signed]; have := h.1; omega
  have w2 : (Lit.int .u64 (a : Int)).wf = true := by simp [Lit.wf, IntKind.min, IntKind.max, IntKind.bits, IntKind.signed]; have := h.2; omega
  unfold Program.keyLits
  simp only [Try.underlying53, cellsK]
  unfold Program.keyLits
  simp [Try.underlying35, Try.underlying40, cells16, cellsA, w1, w2]
theorem keyK {v a : Nat} (h : InK v a) : keyOf Try.prog 53 (keyV v a) = some (kl v a) := by
  obtain ⟨m, hm⟩ := sizeT
  have h1 := h.1
  have h2 := h.2
  unfold keyOf
  simp only [Try.underlying53, typeK, formedK, Bool.and_self, if_true, hm]
  rw [show (keyV v a).cells.toList = [.int .u16 (v : Int), .int .u64 (a : Int)] from rfl, litsK h m]
  simp only [Option.map_some, keyBytes, List.flatMap_cons, List.flatMap_nil, Lit.keyBytes, List.append_nil, kl]
  have e1 : ((v : Int) % 2 ^ IntKind.u16.bits).toNat = v := by simp only [IntKind.bits]; omega
  have e2 : ((a : Int) % 2 ^ IntKind.u64.bits).toNat = a := by simp only [IntKind.bits]; omega
  rw [e1, e2]
  rfl
theorem lit_int {P : Program} {e : TypeId} {q : IntKind} {c : Value} {l : List Lit} {m : Nat} (he : P.underlying e = some (.int q)) (h : P.keyLits (m + 1) e [c] = some l) : ∃ n, c = .int q n ∧ (Lit.int q n).wf = true ∧ l = [.int q n] := by
  unfold Program.keyLits at h
  rw [he] at h
  cases c <;> simp at h
  obtain ⟨⟨rfl, h1⟩, rfl⟩ := h
  exact ⟨_, rfl, h1, rfl⟩
theorem wf_nat {q : IntKind} (hq : q.min = 0) {n : Int} (h : (Lit.int q n).wf = true) : ∃ k : Nat, n = (k : Int) ∧ (k : Int) ≤ q.max := by
  simp only [Lit.wf, hq, Bool.and_eq_true, decide_eq_true_eq] at h
  exact ⟨n.toNat, by omega, by omega⟩
set_option maxRecDepth 100000 in
theorem keyK_inv {v : Value} {l : Lit} (h : keyOf Try.prog 53 v = some l) : ∃ q : Nat × Nat, v = keyV q.1 q.2 ∧ InK q.1 q.2 ∧ l = kl q.1 q.2 := by
  have h0 := h
  obtain ⟨⟨cs⟩, L, rfl, hl, rfl⟩ := keyOf_top wideK h
  obtain ⟨m, hm⟩ := sizeT
  rw [hm] at hl
  clear h
  unfold Program.keyLits at hl
  simp only [Try.underlying53, cellsK] at hl
  match cs, hl with
  | [], hl => simp at hl
  | [c0], hl => simp at hl
  | c0 :: c1 :: c2 :: r, hl => simp at hl
  | [c0, c1], hl =>
    rw [if_pos (by simp)] at hl
    simp only [List.mapM_cons, List.mapM_nil, cells16, cellsA, List.drop_zero, List.take_succ_cons, List.take_zero, List.drop_succ_cons, Option.bind_eq_bind, Option.pure_def, Option.map_eq_some_iff, Option.bind_eq_some_iff] at hl
    obtain ⟨ls, ⟨l1, e1, l2, ⟨l3, e3, l4, e4, e5⟩, e2⟩, rfl⟩ := hl
    obtain ⟨n1, rfl, g1, rfl⟩ := lit_int Try.underlying35 e1
    obtain ⟨n2, rfl, g2, rfl⟩ := lit_int Try.underlying40 e3
    obtain ⟨k1, rfl, b1⟩ := wf_nat rfl g1
    obtain ⟨k2, rfl, b2⟩ := wf_nat rfl g2
    have hk : InK k1 k2 := by simp only [IntKind.max, IntKind.bits, IntKind.signed] at b1 b2; constructor <;> omega
    refine ⟨(k1, k2), rfl, hk, ?_⟩
    have := keyK hk
    rw [h0] at this
    simpa using this
end Go.Proofs.Ytljkodfdiebfiaa.Fd
