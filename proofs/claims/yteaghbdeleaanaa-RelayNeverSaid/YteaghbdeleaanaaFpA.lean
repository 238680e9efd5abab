/-
  Filter: what passes: ringPort, Open, Data, Ring, Outs of the program; Open, Outs, Has of the document.
-/
import Derived.Test.YteaghbdeleaanaaFpM
namespace Go.Proofs.Yteaghbdeleaanaa.Fp
open Go.RowKit Go.Proofs.Yteaghbdeleaanaa.Bt Go.Proofs.Yteaghbdeleaanaa.Mm Go.Proofs.Yteaghbdeleaanaa.Fl Go.Proofs.Yteaghbdeleaanaa.Rf Go.Proofs.Yteaghbdeleaanaa.Tg
set_option linter.unusedVariables false
set_option linter.unusedSimpArgs false

/-- two shut ports as cells, as a value -/
abbrev shC (a b : Bool) : Array Value := #[.bool a, .bool b]
abbrev shV (a b : Bool) : Value := .agg (shC a b)
def opF (a b : Bool) (p : Int) : Bool := if p = 0 then !a else if p = 1 then !b else decide (p = 2)
def rpF (p : Int) : Bool := decide (p = 0) || decide (p = 1)
def daF (a b : Bool) (i o : Int) : Bool := decide (i ≠ o) && (opF a b i && opF a b o)
def rgF (a b : Bool) (i o : Int) : Bool := rpF i && (rpF o && daF a b i o)
/-- the ports below k to which data pass -/
def outL (a b : Bool) (i : Int) (k : Nat) : List Int := ((List.range k).map fun (j : Nat) => (j : Int)).filter fun x => daF a b i x
theorem out_snoc (a b : Bool) (i : Int) (k : Nat) : outL a b i (k + 1) = outL a b i k ++ (if daF a b i (k : Int) then [(k : Int)] else []) := by
  unfold outL
  rw [List.range_succ, List.map_append, List.filter_append]
  congr 1
  simp only [List.map_cons, List.map_nil, List.filter_cons, List.filter_nil]
theorem out_len (a b : Bool) (i : Int) (k : Nat) : (outL a b i k).length ≤ k := by
  unfold outL
  exact Nat.le_trans (List.length_filter_le _ _) (by simp)
theorem out_yes {a b : Bool} {i : Int} {k : Nat} (h : daF a b i (k : Int) = true) : outL a b i (k + 1) = outL a b i k ++ [(k : Int)] := by rw [out_snoc, h]; rfl
theorem out_no {a b : Bool} {i : Int} {k : Nat} (h : daF a b i (k : Int) = false) : outL a b i (k + 1) = outL a b i k := by rw [out_snoc, h]; simp
theorem op_in {a b : Bool} {p : Int} (h : opF a b p = true) : 0 ≤ p ∧ p < 3 := by
  unfold opF at h
  by_cases h0 : p = 0
  · omega
  · by_cases h1 : p = 1
    · omega
    · simp [h0, h1] at h; omega
theorem out_has (a b : Bool) (i p : Int) : decide (p ∈ outL a b i 3) = daF a b i p := by
  by_cases h : daF a b i p = true
  · rw [h]
    have hp : opF a b p = true := by
      unfold daF at h
      simp only [Bool.and_eq_true] at h
      exact h.2.2
    have := op_in hp
    have hm : p ∈ (List.range 3).map fun (j : Nat) => (j : Int) := by
      obtain ⟨n, rfl⟩ := Int.eq_ofNat_of_zero_le this.1
      exact List.mem_map.2 ⟨n, List.mem_range.2 (by omega), rfl⟩
    exact decide_eq_true (List.mem_filter.2 ⟨hm, h⟩)
  · have hf : daF a b i p = false := by simpa using h
    rw [hf]
    exact decide_eq_false (fun hm => h (List.mem_filter.1 hm).2)
theorem da_comm (a b : Bool) (i p : Int) : daF a b p i = daF a b i p := by
  unfold daF
  rw [Bool.and_comm (opF a b p)]
  by_cases h : i = p
  · subst h; rfl
  · rw [decide_eq_true (show p ≠ i from fun e => h e.symm), decide_eq_true (show i ≠ p from h)]
theorem rg_comm (a b : Bool) (i p : Int) : rgF a b p i = rgF a b i p := by
  unfold rgF
  rw [da_comm, ← Bool.and_assoc, ← Bool.and_assoc, Bool.and_comm (rpF p)]
theorem da_self (a b : Bool) (i : Int) : daF a b i i = false := by simp [daF]
theorem rg_shut {a b : Bool} (h : (a || b) = true) (i p : Int) : rgF a b i p = false := by
  unfold rgF rpF daF
  by_cases i0 : i = 0 <;> by_cases i1 : i = 1 <;> by_cases p0 : p = 0 <;> by_cases p1 : p = 1 <;> simp [i0, i1, p0, p1, opF] <;> (first | omega | (cases a <;> cases b <;> simp_all))

theorem info_sh (a b : Bool) : (Try.prog.info? 40).map (·.size) = some (shC a b).size := by kernel_rfl
theorem wpList_loadS {ops : Array Oper} {rest : List Oper} {o : Oper} {a : Act} {w : World} {Q : Exit → Act → World → Prop} (hw : Region.wanted o (yielded ops a.tmps) = true) (x : Operand) (ho : o.op = .load 40 x)
    (g : Nat) (hx : a.eval x = .pointer (some ⟨g, 0, none⟩)) (p q : Bool) (hg : Blk w g 40 (shC p q))
    (h : wpList Try.prog ops Q rest (a.put o.dst (shV p q)) w) : wpList Try.prog ops Q (o :: rest) a w :=
  BigFrame.wpList_want hw fun _ hK => wp_load_row 40 x ho g hx _ (shC p q) _ _ hg Try.underlying40 rfl (info_sh p q) (hK _ _ h)
theorem ld_sh {ops : Array Oper} {S : World → Prop} {op : Oper} {a : Act} {p q : Bool} (hw : Region.wanted op (yielded ops a.tmps) = true) (x : Operand) (ho : op.op = .load 40 x)
    (g : Nat) (hx : a.eval x = .pointer (some ⟨g, 0, none⟩)) (hS : ∀ w, S w → Blk w g 40 (shC p q)) : YieldsIf Try.prog ops S op (shV p q) a :=
  .inl ⟨hw, fun w hw' => by
    unfold execOp
    simp only [ho, hx, Instr.loadAt, Instr.sureAddr, Sem.run_bind, Sem.run_pure, Result.andThen_ok, run_loadVar_row w g _ _ (shC p q) (0, 0) _ (hS w hw') Try.underlying40 rfl (info_sh p q)]⟩

theorem rp_t (p : Int) (t : Bool) (w : World) (ht : Hid (rpF p = t)) : Calls Try.prog 35 #[.int .i64 p] w fun e w' => e = .returned (.bool t) ∧ w' = w := by
  by_cases h0 : p = 0
  · subst h0
    obtain rfl : true = t := ht.out
    go_enter Try.func35, Try.ntmps35
    go_wp2
    go_ret
    exact ⟨rfl, rfl⟩
  · by_cases h1 : p = 1
    · subst h1
      obtain rfl : true = t := ht.out
      go_enter Try.func35, Try.ntmps35
      go_wp2
      go_ret
      exact ⟨rfl, rfl⟩
    · obtain rfl : false = t := (show rpF p = false by simp [rpF, h0, h1]).symm.trans ht.out
      have e0 : (p == (0 : Int)) = false := by simpa using h0
      have e1 : (p == (1 : Int)) = false := by simpa using h1
      go_enter Try.func35, Try.ntmps35
      go_wp2
      go_ret
      exact ⟨rfl, rfl⟩

theorem open_t (a b : Bool) (p : Int) (t : Bool) (w : World) (ht : Hid (opF a b p = t)) : Calls Try.prog 22 #[shV a b, .int .i64 p] w fun e w' => e = .returned (.bool t) ∧ Below w.heap.size w w' := by
  have HA := Lib.hid (Blk.fresh w 40 (shC a b))
  have HB := Lib.hid ((Below.refl w.heap.size w).alloc (Nat.le_refl _) (.cells (shC a b) 40))
  by_cases h0 : p = 0
  · subst h0
    obtain rfl : (!a) = t := ht.out
    go_enter Try.func22, Try.ntmps22
    go_upto_region 1 with (fail)
    generalize w.alloc (.cells (shC a b) 40) = w0 at HA HB ⊢
    have c0 : w0.cell? ⟨w.heap.size, 0, none⟩ = some (.bool a) := HA.out.cell 0
    go_wp2_with (go_at_call 35; refine (rp_t _ true _ (Lib.hid rfl)).mono ?_; rintro e w1 ⟨rfl, rfl⟩)
    go_ret
    exact ⟨rfl, HB.out⟩
  · by_cases h1 : p = 1
    · subst h1
      obtain rfl : (!b) = t := ht.out
      go_enter Try.func22, Try.ntmps22
      go_upto_region 1 with (fail)
      generalize w.alloc (.cells (shC a b) 40) = w0 at HA HB ⊢
      have c0 : w0.cell? ⟨w.heap.size, 1, none⟩ = some (.bool b) := HA.out.cell 1
      go_wp2_with (go_at_call 35; refine (rp_t _ true _ (Lib.hid rfl)).mono ?_; rintro e w1 ⟨rfl, rfl⟩)
      go_ret
      exact ⟨rfl, HB.out⟩
    · have e0 : (p == (0 : Int)) = false := by simpa using h0
      have e1 : (p == (1 : Int)) = false := by simpa using h1
      have HRP := Lib.hid (show rpF p = false by simp [rpF, h0, h1])
      by_cases h2 : p = 2
      · subst h2
        obtain rfl : true = t := ht.out
        go_enter Try.func22, Try.ntmps22
        go_upto_region 1 with (fail)
        generalize w.alloc (.cells (shC a b) 40) = w0 at HA HB ⊢
        go_wp2_with (go_at_call 35; refine (rp_t _ false _ HRP).mono ?_; rintro e w1 ⟨rfl, rfl⟩)
        go_ret
        exact ⟨rfl, HB.out⟩
      · obtain rfl : false = t := (show opF a b p = false by simp [opF, h0, h1, h2]).symm.trans ht.out
        have e2 : (p == (2 : Int)) = false := by simpa using h2
        go_enter Try.func22, Try.ntmps22
        go_upto_region 1 with (fail)
        generalize w.alloc (.cells (shC a b) 40) = w0 at HA HB ⊢
        go_wp2_with (go_at_call 35; refine (rp_t _ false _ HRP).mono ?_; rintro e w1 ⟨rfl, rfl⟩)
        go_ret
        exact ⟨rfl, HB.out⟩
theorem data_t (a b : Bool) (i p : Int) (t : Bool) (w : World) (ht : Hid (daF a b i p = t)) : Calls Try.prog 26 #[shV a b, .int .i64 i, .int .i64 p] w fun e w' => e = .returned (.bool t) ∧ Below w.heap.size w w' := by
  have HA0 := Lib.hid (Blk.fresh w 40 (shC a b))
  have HB0 := Lib.hid ((Below.refl w.heap.size w).alloc (Nat.le_refl _) (.cells (shC a b) 40))
  by_cases hip : i = p
  · obtain rfl : false = t := (show daF a b i p = false by simp [daF, hip]).symm.trans ht.out
    subst hip
    have e0 : (i != i) = false := by simp
    have e1 : (i == i) = true := by simp
    go_enter Try.func26, Try.ntmps26
    go_upto_region 1 with (fail)
    generalize w.alloc (.cells (shC a b) 40) = w0 at HA0 HB0 ⊢
    go_wp2
    go_ret
    exact ⟨rfl, HB0.out⟩
  · have e0 : (i != p) = true := by simpa using hip
    have e1 : (i == p) = false := by simpa using hip
    obtain ⟨x, hx⟩ : ∃ x, opF a b i = x := ⟨_, rfl⟩
    obtain ⟨y, hy⟩ : ∃ y, opF a b p = y := ⟨_, rfl⟩
    have hd : daF a b i p = (x && y) := by unfold daF; rw [hx, hy, decide_eq_true (show i ≠ p from hip), Bool.true_and]
    obtain rfl : (x && y) = t := hd.symm.trans ht.out
    have HX := Lib.hid hx
    have HY := Lib.hid hy
    clear hx hy hd ht
    cases x
    · go_enter Try.func26, Try.ntmps26
      go_upto_region 1 with (fail)
      generalize w.alloc (.cells (shC a b) 40) = w0 at HA0 HB0 ⊢
      go_wp2_with (refine wpList_loadS rfl _ rfl _ rfl _ _ HA0.out ?_)
      refine (open_t _ _ _ _ _ HX).mono ?_
      rintro e w1 ⟨rfl, hb⟩
      have HA1 := Lib.hid (HA0.out.below hb HA0.out.lt)
      have HB1 := Lib.hid (HB0.out.trans (hb.mono HB0.out.size))
      clear hb
      go_wp2
      go_ret
      exact ⟨rfl, HB1.out⟩
    · go_enter Try.func26, Try.ntmps26
      go_upto_region 1 with (fail)
      generalize w.alloc (.cells (shC a b) 40) = w0 at HA0 HB0 ⊢
      go_wp2_with (refine wpList_loadS rfl _ rfl _ rfl _ _ HA0.out ?_)
      refine (open_t _ _ _ _ _ HX).mono ?_
      rintro e w1 ⟨rfl, hb⟩
      have HA1 := Lib.hid (HA0.out.below hb HA0.out.lt)
      have HB1 := Lib.hid (HB0.out.trans (hb.mono HB0.out.size))
      clear hb
      go_wp2_with (refine wpList_loadS rfl _ rfl _ rfl _ _ HA1.out ?_)
      refine (open_t _ _ _ _ _ HY).mono ?_
      rintro e w2 ⟨rfl, hb⟩
      have HA2 := Lib.hid (HA1.out.below hb HA1.out.lt)
      have HB2 := Lib.hid (HB1.out.trans (hb.mono HB1.out.size))
      clear hb
      go_wp2
      go_ret
      exact ⟨by cases y <;> rfl, HB2.out⟩
end Go.Proofs.Yteaghbdeleaanaa.Fp
