/-
  Relay: refused, goes, Go of the program.
-/
import Derived.Test.YteaghbdeleaanaaFdA
import Derived.Test.YteaghbdeleaanaaFpB
import Derived.Test.YteaghbdeleaanaaTagA
import Derived.Deep.MidRow
namespace Go.Proofs.Yteaghbdeleaanaa.Rl
open Go.RowKit Go.Proofs.Yteaghbdeleaanaa.Mm Go.Proofs.Yteaghbdeleaanaa.Fl Go.Proofs.Yteaghbdeleaanaa.Tg Go.Proofs.Yteaghbdeleaanaa.Fp Go.Proofs.Yteaghbdeleaanaa.Fd
set_option linter.unusedVariables false
set_option linter.unusedSimpArgs false

theorem wpList_loadG {P : Program} {ops : Array Oper} {rest : List Oper} {o : Oper} {a : Act} {w : World} {Q : Exit → Act → World → Prop} (hw : Region.wanted o (yielded ops a.tmps) = true) (ty : TypeId) (x : Operand) (ho : o.op = .load ty x)
    (g : Nat) (hx : a.eval x = .pointer (some ⟨g, 0, none⟩)) (t : TypeId) (cs : Array Value) (fr : Nat × Nat) (d : TypeDesc) (hg : w.heap[g]? = some (.cells cs t fr))
    (hu : P.underlying ty = some d) (hd : (match d with | .struct _ | .array _ _ => true | _ => false) = true) (hi : (P.info? ty).map (·.size) = some cs.size)
    (h : wpList P ops Q rest (a.put o.dst (.agg cs)) w) : wpList P ops Q (o :: rest) a w :=
  BigFrame.wpList_want hw fun _ hK => wp_load_row ty x ho g hx t cs fr d hg hu hd hi (hK _ _ h)

abbrev frC (d s p : Nat) (dr : Bool) (v t : Nat) (b : ByteArray) : Array Value := #[.int .u64 (d : Int), .int .u64 (s : Int), .int .u8 (p : Int), .bool dr, .int .u16 (v : Int), .int .u16 (t : Int), .string b]
theorem info_fr (d s p : Nat) (dr : Bool) (v t : Nat) (b : ByteArray) : (Try.prog.info? 27).map (·.size) = some (frC d s p dr v t b).size := by kernel_rfl

/-- why no frame is taken from a number -/
def refE (a b : Bool) (i : Int) : Nat := if i < 0 ∨ 2 < i then 11 else if opF a b i = true then 0 else 12
/-- the rows behind Learn -/
def learnR (room : Int) (l : List Fd.Fr) (v s : Nat) (p now : Int) : List Fd.Fr := if lrnE room l v s p = 0 then ins l ⟨v, s, p, now⟩ else l
/-- where a frame goes, and whether that is to all -/
def goesR (a b : Bool) (i : Int) (g k : Bool) (q : Int) : List Int × Bool := if (g || !k) = true then (outL a b i 3, true) else if daF a b i q = true then ([q], false) else ([], false)

theorem refused_t (a b : Bool) (i : Int) (c : Nat) (w : World) (hc : Hid (refE a b i = c)) : Calls Try.prog 13 #[shV a b, .int .i64 i] w fun e w' => e = .returned (.int .i64 (c : Int)) ∧ Below w.heap.size w w' := by
  have HA := Lib.hid (Blk.fresh w 40 (shC a b))
  have HB := Lib.hid ((Below.refl w.heap.size w).alloc (Nat.le_refl _) (.cells (shC a b) 40))
  by_cases h0 : i < 0
  · obtain rfl : 11 = c := (show refE a b i = 11 by unfold refE; rw [if_pos (Or.inl h0)]).symm.trans hc.out
    have d0 : decide (i < (0 : Int)) = true := decide_eq_true h0
    go_enter Try.func13, Try.ntmps13
    go_upto_region 1 with (fail)
    generalize w.alloc (.cells (shC a b) 40) = w0 at HA HB ⊢
    go_wp2
    go_ret
    exact ⟨rfl, HB.out⟩
  · have d0 : decide (i < (0 : Int)) = false := decide_eq_false h0
    by_cases h2 : 2 < i
    · obtain rfl : 11 = c := (show refE a b i = 11 by unfold refE; rw [if_pos (Or.inr h2)]).symm.trans hc.out
      have d2 : decide ((2 : Int) < i) = true := decide_eq_true h2
      go_enter Try.func13, Try.ntmps13
      go_upto_region 1 with (fail)
      generalize w.alloc (.cells (shC a b) 40) = w0 at HA HB ⊢
      go_wp2
      go_ret
      exact ⟨rfl, HB.out⟩
    · have d2 : decide ((2 : Int) < i) = false := decide_eq_false h2
      obtain ⟨t, ht⟩ : ∃ t, opF a b i = t := ⟨_, rfl⟩
      have HC := Lib.hid (show refE a b i = if t = true then 0 else 12 by unfold refE; rw [if_neg (show ¬ (i < 0 ∨ 2 < i) from fun h => h.elim h0 h2), ht])
      have HT := Lib.hid ht
      clear ht
      go_enter Try.func13, Try.ntmps13
      go_upto_region 1 with (fail)
      generalize w.alloc (.cells (shC a b) 40) = w0 at HA HB ⊢
      go_wp2_with (refine wpList_loadS rfl _ rfl _ rfl _ _ HA.out ?_)
      refine (open_t _ _ _ _ _ HT).mono ?_
      rintro e w1 ⟨rfl, hb⟩
      have HB1 := Lib.hid (HB.out.trans (hb.mono HB.out.size))
      clear hb
      cases t
      · obtain rfl : 12 = c := HC.out.symm.trans hc.out
        go_wp2
        go_ret
        exact ⟨rfl, HB1.out⟩
      · obtain rfl : 0 = c := HC.out.symm.trans hc.out
        go_wp2
        go_ret
        exact ⟨rfl, HB1.out⟩

theorem three_blk (w : World) (t0 t1 t2 : TypeId) (x0 x1 x2 : Array Value) : Blk (((w.alloc (.cells x0 t0)).alloc (.cells x1 t1)).alloc (.cells x2 t2)) w.heap.size t0 x0 ∧ Blk (((w.alloc (.cells x0 t0)).alloc (.cells x1 t1)).alloc (.cells x2 t2)) (w.heap.size + 1) t1 x1 ∧ Blk (((w.alloc (.cells x0 t0)).alloc (.cells x1 t1)).alloc (.cells x2 t2)) (w.heap.size + 2) t2 x2 :=
  ⟨((Blk.fresh w t0 x0).alloc _).alloc _, (fresh_second w (.cells x0 t0) t1 x1).alloc _, blk_last w (.cells x0 t0) (.cells x1 t1) t2 x2⟩
theorem below_four (w : World) (a b c d : Obj) : Below w.heap.size w ((((w.alloc a).alloc b).alloc c).alloc d) := (below_three w a b c).alloc (Nat.le_of_lt (by simp; omega)) d
theorem four_last (w : World) (a b c : Obj) (t : TypeId) (x : Array Value) : Blk ((((w.alloc a).alloc b).alloc c).alloc (.cells x t)) (w.heap.size + 3) t x := by
  have := Blk.fresh (((w.alloc a).alloc b).alloc c) t x
  rwa [show (((w.alloc a).alloc b).alloc c).heap.size = w.heap.size + 3 by simp] at this
theorem rd_one (w : World) (q : Int) (B : Nat) (h : w.cell? ⟨B, 0, none⟩ = some (.int .i64 q)) : Rd w w.heap.size (some ⟨B, 0, none⟩) (ints [q]) := fun _ =>
  ⟨_, rfl, Op.lt_of_cell h, fun j u hu => by
    have hj : j < 1 := (List.getElem?_eq_some_iff.1 hu).1
    obtain rfl : j = 0 := by omega
    have : u = .int .i64 q := by simpa [ints] using hu.symm
    rw [this]; exact h⟩

set_option maxRecDepth 100000 in
set_option maxHeartbeats 2000000 in
theorem goes_t {room age now i q : Int} {x y k g fl : Bool} {d s p v t : Nat} {dr : Bool} {bd : ByteArray} {b : Nat} {l : List Fd.Fr} {L : List Int} {w : World} (h : Mp w b l) (hk : ∀ x ∈ l, okK x) (hin : InK v d) (hs : ∀ x ∈ l, 0 ≤ x.seen ∧ x.seen ≤ 1099511627776) (ha : 0 ≤ age ∧ age ≤ 1048576)
    (hq : lookR l v d now age = (q, k)) (hg : Mc.groupB d = g) (hL : goesR x y i g k q = (L, fl)) :
    Calls Try.prog 15 #[tbV room age (some b), shV x y, .int .i64 now, .int .i64 i, frV d s p dr v t bd] w fun e w' => ∃ A c, e = .returned (.tuple #[.slice A L.length c, .bool fl]) ∧ Rd w' w'.heap.size A (ints L) ∧ Below w.heap.size w w' := by
  have HM := Lib.hid h; have HK := Lib.hid hk; have HI := Lib.hid hin; have HS := Lib.hid hs; have HAG := Lib.hid ha; have HQ := Lib.hid hq; have HG := Lib.hid hg; have HL := Lib.hid hL
  clear h hk hin hs ha hq hg hL
  go_enter Try.func15, Try.ntmps15
  go_upto_region 1 with (fail)
  obtain ⟨ha, hb, hc⟩ := three_blk w 32 40 27 (tbC room age (some b)) (shC x y) (frC d s p dr v t bd)
  have hbel := below_three w (.cells (tbC room age (some b)) 32) (.cells (shC x y) 40) (.cells (frC d s p dr v t bd) 27)
  have HM0 := Lib.hid (HM.out.on hbel)
  have HT := Lib.hid ha; have HSH := Lib.hid hb; have HF := Lib.hid hc; have HB := Lib.hid hbel
  clear ha hb hc hbel
  generalize ((w.alloc (.cells (tbC room age (some b)) 32)).alloc (.cells (shC x y) 40)).alloc (.cells (frC d s p dr v t bd) 27) = w0 at HM0 HT HSH HF HB ⊢
  have c0 : w0.cell? ⟨w.heap.size + 2, 0, none⟩ = some (.int .u64 (d : Int)) := HF.out.cell 0
  have c4 : w0.cell? ⟨w.heap.size + 2, 4, none⟩ = some (.int .u16 (v : Int)) := HF.out.cell 4
  cases Rw3.row HT.out
  go_wp2_with fail
  refine (look_any HM0.out HK.out HI.out HS.out HAG.out HQ.out).mono ?_
  rintro e w1 ⟨rfl, hb⟩
  have HSH1 := Lib.hid (HSH.out.below hb HSH.out.lt)
  have HF1 := Lib.hid (HF.out.below hb HF.out.lt)
  have HB1 := Lib.hid (HB.out.trans (hb.mono HB.out.size))
  clear hb c0 c4
  have c0 : w1.cell? ⟨w.heap.size + 2, 0, none⟩ = some (.int .u64 (d : Int)) := HF1.out.cell 0
  go_wp2_with fail
  refine (Mc.group_b g d w1 HG.out HI.out.2).mono ?_
  rintro e w2 ⟨rfl, rfl⟩
  cases g
  · cases k
    · have hR : (outL x y i 3, true) = (L, fl) := HL.out
      injection hR with e1 e2
      subst e2
      have HL1 := Lib.hid e1
      clear e1
      go_wp2_with (refine wpList_loadS rfl _ rfl _ rfl _ _ HSH1.out ?_)
      refine (outs_t _ _ _ _ _ HL1).mono ?_
      rintro e w3 ⟨A, c, rfl, hrd, hb⟩
      have HR3 := Lib.hid hrd
      have HB3 := Lib.hid (HB1.out.trans (hb.mono HB1.out.size))
      clear hb hrd
      go_wp2
      go_ret2
      exact ⟨A, c, rfl, HR3.out, HB3.out⟩
    · obtain ⟨z, hz⟩ : ∃ z, daF x y i q = z := ⟨_, rfl⟩
      have hR : goesR x y i false true q = (L, fl) := HL.out
      unfold goesR at hR
      rw [hz] at hR
      have HZ := Lib.hid hz
      clear hz
      go_wp2_with (refine wpList_loadS rfl _ rfl _ rfl _ _ HSH1.out ?_)
      refine (data_t _ _ _ _ _ _ HZ).mono ?_
      rintro e w3 ⟨rfl, hb⟩
      have HB3 := Lib.hid (HB1.out.trans (hb.mono HB1.out.size))
      clear hb
      cases z
      · have hR' : (([] : List Int), false) = (L, fl) := hR
        injection hR' with e1 e2
        subst e1 e2
        go_wp2
        go_ret2
        exact ⟨none, 0, rfl, Rd.none _ _ _, HB3.out⟩
      · have hR' : ([q], false) = (L, fl) := hR
        injection hR' with e1 e2
        subst e1 e2
        go_wp2
        go_ret2
        exact ⟨some ⟨w3.heap.size, 0, none⟩, 1, rfl, rd_one _ _ _ ((Blk.fresh w3 _ #[.int .i64 q]).cell 0), HB3.out.alloc HB3.out.size _⟩
  · have hR : (outL x y i 3, true) = (L, fl) := HL.out
    injection hR with e1 e2
    subst e2
    have HL1 := Lib.hid e1
    clear e1
    go_wp2_with (refine wpList_loadS rfl _ rfl _ rfl _ _ HSH1.out ?_)
    refine (outs_t _ _ _ _ _ HL1).mono ?_
    rintro e w3 ⟨A, c, rfl, hrd, hb⟩
    have HR3 := Lib.hid hrd
    have HB3 := Lib.hid (HB1.out.trans (hb.mono HB1.out.size))
    clear hb hrd
    go_wp2
    go_ret2
    exact ⟨A, c, rfl, HR3.out, HB3.out⟩

/-- a map's block is no row of cells -/
theorem mp_ne {w : World} {b g : Nat} {l : List Fd.Fr} {t : TypeId} {cs : Array Value} (h : Mp w b l) (hg : Blk w g t cs) : b ≠ g := by
  rintro rfl
  obtain ⟨es, clock, h1, _⟩ := h
  unfold Blk at hg
  rw [h1] at hg
  injection hg with e
  cases e
theorem learn_any {room age now p : Int} {v a : Nat} {b : Nat} {l l' : List Fd.Fr} {w : World} (h : Mp w b l) (hk : ∀ x ∈ l, okK x) (hr : Rising l) (hn : l.length ≤ 1024) (hin : InK v a) (hl : learnR room l v a p now = l') :
    Calls Try.prog 14 #[tbV room age (some b), .int .i64 now, .int .u16 (v : Int), .int .u64 (a : Int), .int .i64 p] w fun e w' => ∃ b' c, e = .returned (.tuple #[tbV room age (some b'), .int .i64 (c : Int)]) ∧ Mp w' b' l' ∧ Below w.heap.size w w' := by
  obtain ⟨c, hc⟩ : ∃ c, lrnE room l v a p = c := ⟨_, rfl⟩
  by_cases h0 : c = 0
  · subst h0
    rw [show learnR room l v a p now = ins l ⟨v, a, p, now⟩ by unfold learnR; rw [if_pos hc]] at hl
    subst hl
    refine (learn_good h hk hr (by unfold maxLen; omega) hin hc).mono ?_
    rintro e w' ⟨b', he, hm, hb⟩
    exact ⟨b', 0, he, hm, hb⟩
  · rw [show learnR room l v a p now = l by unfold learnR; rw [if_neg (by rw [hc]; exact h0)]] at hl
    subst hl
    refine (learn_bad h hk hin hc (by simp only [bne_iff_ne, ne_eq]; omega)).mono ?_
    rintro e w' ⟨he, hb⟩
    exact ⟨b, c, he, h.on hb, hb⟩

theorem results_row4 {P : Program} {fn : Func} {p u v z : Tmp} {ty : TypeId} (h : fn.results = #[.cell p ty, .tmp u, .tmp v, .tmp z]) (tmps : Array Value) (w : World) (g : Nat) (t : TypeId) (cs : Array Value) (fr : Nat × Nat) (d : TypeDesc)
    (hp : tmps.getD p undef = .pointer (some ⟨g, 0, none⟩)) (hg : w.heap[g]? = some (.cells cs t fr))
    (hu : P.underlying ty = some d) (hd : (match d with | .struct _ | .array _ _ => true | _ => false) = true) (hi : (P.info? ty).map (·.size) = some cs.size) :
    (results fn tmps).run P w = .ok (.tuple #[.agg cs, tmps.getD u undef, tmps.getD v undef, tmps.getD z undef]) w := by
  have e : (results fn tmps).run P w = ((asAddr (tmps.getD p undef)).run P w).andThen fun a w₁ => ((loadVar ty a).run P w₁).andThen fun x w₂ => .ok (.tuple #[x, tmps.getD u undef, tmps.getD v undef, tmps.getD z undef]) w₂ := by
    simp only [results, h]
    simp [Sem.run_bind, Result.andThen]
  rw [e, hp]
  simp [asAddr, run_loadVar_row w g t ty cs fr d hg hu hd hi, Result.andThen]

set_option maxRecDepth 100000 in
set_option maxHeartbeats 2000000 in
theorem go_bad {room age now i : Int} {x y : Bool} {d s p v t c : Nat} {dr : Bool} {bd : ByteArray} {b : Nat} {w : World} (hc : refE x y i = c) (hz : c ≠ 0) :
    Calls Try.prog 6 #[tbV room age (some b), shV x y, .int .i64 now, .int .i64 i, frV d s p dr v t bd] w fun e w' => e = .returned (.tuple #[tbV room age (some b), .slice none 0 0, .bool false, .int .i64 (c : Int)]) ∧ Below w.heap.size w w' := by
  have HC := Lib.hid hc
  have hne : ((c : Int) != 0) = true := by simp only [bne_iff_ne, ne_eq]; omega
  have hne' : ((c : Int) == 0) = false := by simp only [beq_eq_false_iff_ne, ne_eq]; omega
  clear hc hz
  go_enter Try.func6, Try.ntmps6
  go_upto_region 1 with (fail)
  obtain ⟨ha, hb, hd⟩ := three_blk w 32 40 27 (tbC room age (some b)) (shC x y) (frC d s p dr v t bd)
  have hr := four_last w (.cells (tbC room age (some b)) 32) (.cells (shC x y) 40) (.cells (frC d s p dr v t bd) 27) 32 noT
  have hbel := below_four w (.cells (tbC room age (some b)) 32) (.cells (shC x y) 40) (.cells (frC d s p dr v t bd) 27) (.cells noT 32)
  have HT := Lib.hid (ha.alloc (.cells noT 32)); have HSH := Lib.hid (hb.alloc (.cells noT 32)); have HR := Lib.hid hr; have HB := Lib.hid hbel
  clear ha hb hd hbel hr
  generalize (((w.alloc (.cells (tbC room age (some b)) 32)).alloc (.cells (shC x y) 40)).alloc (.cells (frC d s p dr v t bd) 27)).alloc (.cells noT 32) = w0 at HT HSH HR HB ⊢
  go_wp2_with (refine wpList_loadS rfl _ rfl _ rfl _ _ HSH.out ?_)
  refine (refused_t _ _ _ _ _ HC).mono ?_
  rintro e w1 ⟨rfl, hb⟩
  have HT1 := Lib.hid (HT.out.below hb HT.out.lt)
  have HR1 := Lib.hid (HR.out.below hb HR.out.lt)
  have HB1 := Lib.hid (HB.out.trans (hb.mono HB.out.size))
  clear hb
  cases Rw3.row HT1.out
  cases Rw3.row HR1.out
  go_wp2
  (try simp only [Exit.inBlock, Exit.then]); refine bodyPost_ret (results_row4 rfl _ _ (w.heap.size + 3) 32 _ (0, 0) _ rfl (Rw3.blk_set HR1.out _ _ _) Try.underlying32 rfl info_t) rfl ?_
  exact ⟨rfl, Rw3.below_set HB1.out (by omega) _ _ _⟩

/-- what is stored as it was leaves all cells as they were -/
theorem same1 {w : World} {p : Addr} {x : Value} (h : w.cell? p = some x) (q : Addr) : (w.setCell p x).cell? q = w.cell? q := by
  by_cases e : p = q
  · subst e; rw [World.cell?_setCell_same _ _ _ h, h]
  · rw [World.cell?_setCell_other _ _ _ _ e]
theorem same3 {w : World} {g : Nat} {t : TypeId} {x0 x1 x2 : Value} (h : Blk w g t #[x0, x1, x2]) (q : Addr) : (Rw3.set w g x0 x1 x2).cell? q = w.cell? q := by
  have h0 : w.cell? ⟨g, 0, none⟩ = some x0 := h.cell 0
  have h1 : (w.setCell ⟨g, 0, none⟩ x0).cell? ⟨g, 1, none⟩ = some x1 := by rw [same1 h0]; exact h.cell 1
  have h2 : ((w.setCell ⟨g, 0, none⟩ x0).setCell ⟨g, 1, none⟩ x1).cell? ⟨g, 2, none⟩ = some x2 := by rw [same1 h1, same1 h0]; exact h.cell 2
  unfold Rw3.set
  rw [same1 h2, same1 h1, same1 h0]

set_option maxRecDepth 100000 in
set_option maxHeartbeats 4000000 in
theorem go_good {room age now i q : Int} {x y k g fl : Bool} {d s p v t : Nat} {dr : Bool} {bd : ByteArray} {b : Nat} {l l' : List Fd.Fr} {L : List Int} {w : World} (hc : refE x y i = 0) (h : Mp w b l) (hk : ∀ x ∈ l, okK x) (hr : Rising l) (hn : l.length ≤ 1024) (hin : InK v s)
    (hl : learnR room l v s i now = l') (hk' : ∀ x ∈ l', okK x) (hs' : ∀ x ∈ l', 0 ≤ x.seen ∧ x.seen ≤ 1099511627776) (hin' : InK v d) (ha : 0 ≤ age ∧ age ≤ 1048576)
    (hq : lookR l' v d now age = (q, k)) (hg : Mc.groupB d = g) (hL : goesR x y i g k q = (L, fl)) :
    Calls Try.prog 6 #[tbV room age (some b), shV x y, .int .i64 now, .int .i64 i, frV d s p dr v t bd] w fun e w' => ∃ b' A c, e = .returned (.tuple #[tbV room age (some b'), .slice A L.length c, .bool fl, .int .i64 0]) ∧ Mp w' b' l' ∧ Rd w' w'.heap.size A (ints L) ∧ Below w.heap.size w w' := by
  have HC := Lib.hid hc; have HM := Lib.hid h; have HK := Lib.hid hk; have HRI := Lib.hid hr; have HN := Lib.hid hn; have HI := Lib.hid hin; have HLN := Lib.hid hl
  have HK' := Lib.hid hk'; have HS' := Lib.hid hs'; have HI' := Lib.hid hin'; have HAG := Lib.hid ha; have HQ := Lib.hid hq; have HG := Lib.hid hg; have HL := Lib.hid hL
  clear hc h hk hr hn hin hl hk' hs' hin' ha hq hg hL
  go_enter Try.func6, Try.ntmps6
  go_upto_region 1 with (fail)
  obtain ⟨ha, hb, hd⟩ := three_blk w 32 40 27 (tbC room age (some b)) (shC x y) (frC d s p dr v t bd)
  have hr := four_last w (.cells (tbC room age (some b)) 32) (.cells (shC x y) 40) (.cells (frC d s p dr v t bd) 27) 32 noT
  have hbel := below_four w (.cells (tbC room age (some b)) 32) (.cells (shC x y) 40) (.cells (frC d s p dr v t bd) 27) (.cells noT 32)
  have HT := Lib.hid (ha.alloc (.cells noT 32)); have HSH := Lib.hid (hb.alloc (.cells noT 32)); have HF := Lib.hid (hd.alloc (.cells noT 32)); have HR := Lib.hid hr; have HB := Lib.hid hbel
  have HM0 := Lib.hid (HM.out.on hbel)
  clear ha hb hd hbel hr
  generalize (((w.alloc (.cells (tbC room age (some b)) 32)).alloc (.cells (shC x y) 40)).alloc (.cells (frC d s p dr v t bd) 27)).alloc (.cells noT 32) = w0 at HT HSH HF HR HB HM0 ⊢
  go_wp2_with (refine wpList_loadS rfl _ rfl _ rfl _ _ HSH.out ?_)
  refine (refused_t _ _ _ _ _ HC).mono ?_
  rintro e w1 ⟨rfl, hb⟩
  have HT1 := Lib.hid (HT.out.below hb HT.out.lt)
  have HSH1 := Lib.hid (HSH.out.below hb HSH.out.lt)
  have HF1 := Lib.hid (HF.out.below hb HF.out.lt)
  have HR1 := Lib.hid (HR.out.below hb HR.out.lt)
  have HM1 := Lib.hid (HM0.out.on hb)
  have HB1 := Lib.hid (HB.out.trans (hb.mono HB.out.size))
  clear hb
  cases Rw3.row HT1.out
  have c1 : w1.cell? ⟨w.heap.size + 2, 1, none⟩ = some (.int .u64 (s : Int)) := HF1.out.cell 1
  have c4 : w1.cell? ⟨w.heap.size + 2, 4, none⟩ = some (.int .u16 (v : Int)) := HF1.out.cell 4
  go_wp2_with fail
  refine (learn_any HM1.out HK.out HRI.out HN.out HI.out HLN.out).mono ?_
  rintro e w2 ⟨b', c', rfl, hm, hb⟩
  have HSH2 := Lib.hid (HSH1.out.below hb HSH1.out.lt)
  have HF2 := Lib.hid (HF1.out.below hb HF1.out.lt)
  have HR2 := Lib.hid (HR1.out.below hb HR1.out.lt)
  have HM2 := Lib.hid hm
  have HB2 := Lib.hid (HB1.out.trans (hb.mono HB1.out.size))
  clear hb hm c1 c4
  cases Rw3.row HR2.out
  go_upto_region 5 with (fail)
  obtain ⟨w3, hw3⟩ : ∃ w3, w3 = Rw3.set w2 (w.heap.size + 3) (.int .i64 room) (.int .i64 age) (.map (some b')) := ⟨_, rfl⟩
  have HR3 : Hid (Blk w3 (w.heap.size + 3) 32 (tbC room age (some b'))) := Lib.hid (by rw [hw3]; exact Rw3.blk_set HR2.out _ _ _)
  have HSH3 : Hid (Blk w3 (w.heap.size + 1) 40 (shC x y)) := Lib.hid (by rw [hw3]; exact Rw3.far HSH2.out (by omega) _ _ _)
  have HF3 : Hid (Blk w3 (w.heap.size + 2) 27 (frC d s p dr v t bd)) := Lib.hid (by rw [hw3]; exact Rw3.far HF2.out (by omega) _ _ _)
  have HM3 : Hid (Mp w3 b' l') := Lib.hid (by rw [hw3]; exact HM2.out.far (mp_ne HM2.out HR2.out) _ _ _)
  have HB3 : Hid (Below w.heap.size w w3) := Lib.hid (by rw [hw3]; exact Rw3.below_set HB2.out (by omega) _ _ _)
  dsimp only [Rw3.set] at hw3
  rw [← hw3]
  clear hw3 HSH2 HF2 HR2 HM2 HB2
  cases Rw3.row HR3.out
  go_wp2_with (first | (refine wpList_loadS rfl _ rfl _ rfl _ _ HSH3.out ?_) | (refine wpList_loadG rfl 27 _ rfl (w.heap.size + 2) rfl _ (frC d s p dr v t bd) _ _ HF3.out Try.underlying27 rfl (info_fr d s p dr v t bd) ?_))
  refine (goes_t HM3.out HK'.out HI'.out HS'.out HAG.out HQ.out HG.out HL.out).mono ?_
  rintro e w4 ⟨A, c, rfl, hrd, hb⟩
  have HR4 := Lib.hid (HR3.out.below hb HR3.out.lt)
  have HM4 := Lib.hid (HM3.out.on hb)
  have HB4 := Lib.hid (HB3.out.trans (hb.mono HB3.out.size))
  have HRD := Lib.hid hrd
  clear hb hrd
  cases Rw3.row HR4.out
  go_wp2
  (try simp only [Exit.inBlock, Exit.then]); refine bodyPost_ret (results_row4 rfl _ _ (w.heap.size + 3) 32 _ (0, 0) _ rfl (Rw3.blk_set HR4.out _ _ _) Try.underlying32 rfl info_t) rfl ?_
  exact ⟨b', A, c, rfl, HM4.out.far (mp_ne HM4.out HR4.out) _ _ _, (HRD.out.keep fun q _ => same3 HR4.out q).more (Rw3.below_set (Below.refl 0 w4) (Nat.zero_le _) _ _ _).size, Rw3.below_set HB4.out (by omega) _ _ _⟩
end Go.Proofs.Yteaghbdeleaanaa.Rl
