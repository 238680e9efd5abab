/-
  Plan: a plan loaded and stored whole; the law's Of and Example, the groups' text, the example.
-/
import Derived.Test.YtoiggajjbjcabaaPlE
import Derived.Test.YtoiggajjbjcabaaCmH
namespace Go.Proofs.Ytoiggajjbjcabaa.Pn
open Go.RowKit Go.Proofs.Ytoiggajjbjcabaa.Bt Go.Proofs.Ytoiggajjbjcabaa.Mm Go.Proofs.Ytoiggajjbjcabaa.Fl Go.Proofs.Ytoiggajjbjcabaa.Lw Go.Proofs.Ytoiggajjbjcabaa.Hx Go.Proofs.Ytoiggajjbjcabaa.Mc Go.Proofs.Ytoiggajjbjcabaa.Tg Go.Proofs.Ytoiggajjbjcabaa.Oa Go.Proofs.Ytoiggajjbjcabaa.Rp
set_option linter.unusedVariables false

theorem wpList_loadG {P : Program} {ops : Array Oper} {rest : List Oper} {o : Oper} {a : Act} {w : World} {Q : Exit → Act → World → Prop} (hw : Region.wanted o (yielded ops a.tmps) = true) (ty : TypeId) (x : Operand) (ho : o.op = .load ty x)
    (g : Nat) (hx : a.eval x = .pointer (some ⟨g, 0, none⟩)) (t : TypeId) (cs : Array Value) (fr : Nat × Nat) (d : TypeDesc) (hg : w.heap[g]? = some (.cells cs t fr))
    (hu : P.underlying ty = some d) (hd : (match d with | .struct _ | .array _ _ => true | _ => false) = true) (hi : (P.info? ty).map (·.size) = some cs.size)
    (h : wpList P ops Q rest (a.put o.dst (.agg cs)) w) : wpList P ops Q (o :: rest) a w :=
  BigFrame.wpList_want hw fun _ hK => wp_load_row ty x ho g hx t cs fr d hg hu hd hi (hK _ _ h)
theorem ld_p {ops : Array Oper} {S : World → Prop} {op : Oper} {a : Act} {p : Pl} (hw : Region.wanted op (yielded ops a.tmps) = true) (x : Operand) (ho : op.op = .load 24 x)
    (g : Nat) (hx : a.eval x = .pointer (some ⟨g, 0, none⟩)) (hS : ∀ w, S w → Blk w g 24 (plC p)) : YieldsIf Try.prog ops S op (.agg (plC p)) a :=
  .inl ⟨hw, fun w hw' => by
    unfold execOp
    simp only [ho, hx, Instr.loadAt, Instr.sureAddr, Sem.run_bind, Sem.run_pure, Result.andThen_ok, run_loadVar_row w g _ _ (plC p) (0, 0) _ (hS w hw') Try.underlying24 rfl (info_p p)]⟩
theorem ld_rp {ops : Array Oper} {S : World → Prop} {op : Oper} {a : Act} {p : Pl} (hw : Region.wanted op (yielded ops a.tmps) = true) (x : Operand) (ho : op.op = .load 29 x)
    (g : Nat) (hx : a.eval x = .pointer (some ⟨g, 0, none⟩)) (hS : ∀ w, S w → Blk w g 29 (plC p)) : YieldsIf Try.prog ops S op (.agg (plC p)) a :=
  .inl ⟨hw, fun w hw' => by
    unfold execOp
    simp only [ho, hx, Instr.loadAt, Instr.sureAddr, Sem.run_bind, Sem.run_pure, Result.andThen_ok, run_loadVar_row w g _ _ (plC p) (0, 0) _ (hS w hw') Try.underlying29 rfl (info_rp p)]⟩
theorem one_p (p : Pl) : (plC p).all (·.oneCell') = true := by kernel_rfl
theorem blk_put {w : World} {g : Nat} {t : TypeId} {old : Array Value} (h : Blk w g t old) (cs : Array Value) : Blk (w.setRow g cs) g t cs := setRow_heap w g old cs t (0, 0) h
theorem below_put {B g : Nat} {w0 w : World} (hb : Below B w0 w) (hBg : B ≤ g) (cs : Array Value) : Below B w0 (w.setRow g cs) :=
  hb.trans ⟨rfl, rfl, rfl, by simp [World.setRow], fun k hk => setRow_other w g k cs (by omega)⟩
theorem blk_other {w : World} {g k : Nat} {t : TypeId} {old : Array Value} (h : Blk w k t old) (hne : k ≠ g) (cs : Array Value) : Blk (w.setRow g cs) k t old := (setRow_other w g k cs hne).trans h
/-- a plan made, all its numbers zero -/
def p00 : Pl := ⟨0, 0, 0, 0, 0, 0, 0, 0, 0, 0, 0, 0, 0, 0, 0, false⟩
/-- the example's plan -/
def pEx : Pl := ⟨4, 0, 7, 10, 20, 2, 0, 5, 20, 10, 1, 6, 100, 16, 16, true⟩
theorem chk_ex : chk pEx = 0 := by decide +kernel
theorem far_ex : farR pEx 3 1 = (0, 0) := by decide +kernel
theorem pw_ex : Pw pEx := by constructor <;> decide

abbrev zP : Array Value := #[.int .i64 0, .int .i64 0, .int .u8 0, .int .u16 0, .int .u16 0, .int .i64 0, .int .i64 0, .int .i64 0, .int .i64 0, .int .i64 0, .int .i64 0, .int .i64 0, .int .i64 0, .int .i64 0, .int .i64 0, .bool false]
abbrev xP : Array Value := #[.int .i64 4, .int .i64 0, .int .u8 7, .int .u16 10, .int .u16 20, .int .i64 2, .int .i64 0, .int .i64 5, .int .i64 20, .int .i64 10, .int .i64 1, .int .i64 6, .int .i64 100, .int .i64 16, .int .i64 16, .bool true]
theorem info_z : (Try.prog.info? 24).map (·.size) = some zP.size := by kernel_rfl
theorem info_x : (Try.prog.info? 24).map (·.size) = some xP.size := by kernel_rfl
set_option maxRecDepth 100000 in
set_option maxHeartbeats 2000000 in
theorem of_at (p : Pl) (w : World) : Calls Try.prog 9 #[plV p] w fun x w' => x = .returned (plV p) ∧ Below w.heap.size w w' := by
  have HA := Lib.hid ((Blk.fresh w 24 (plC p)).alloc (.cells zP 29))
  have HR := Lib.hid (fresh_second w (.cells (plC p) 24) 29 zP)
  have HB := Lib.hid (((Below.refl w.heap.size w).alloc (Nat.le_refl _) (.cells (plC p) 24)).alloc (by simp) (.cells zP 29))
  go_enter Try.func9, Try.ntmps9
  go_upto_region 1 with (fail)
  generalize (w.alloc (.cells (plC p) 24)).alloc (.cells zP 29) = w0 at HA HR HB ⊢
  go_wp2_with (first | (refine wpList_loadG rfl 24 _ rfl _ rfl _ (plC p) _ _ HA.out Try.underlying24 rfl (info_p p) ?_) | (refine wpList_store_row rfl 29 _ _ rfl _ (plC p) rfl rfl _ _ HR.out (info_rp p) rfl (one_p p) ?_))
  (try simp only [Exit.inBlock, Exit.then]); refine bodyPost_ret (results_cell_row rfl _ _ (w.heap.size + 1) _ _ (0, 0) _ rfl (blk_put HR.out (plC p)) Try.underlying29 rfl (info_rp p)) rfl ?_
  exact ⟨rfl, below_put HB.out (by omega) _⟩
set_option maxRecDepth 100000 in
set_option maxHeartbeats 2000000 in
theorem ex_at (w : World) : Calls Try.prog 24 #[] w fun x w' => x = .returned (plV pEx) ∧ Below w.heap.size w w' := by
  have HR := Lib.hid (Blk.fresh w 24 zP)
  have HB := Lib.hid ((Below.refl w.heap.size w).alloc (Nat.le_refl _) (.cells zP 24))
  go_enter Try.func24, Try.ntmps24
  go_upto_region 1 with (fail)
  generalize w.alloc (.cells zP 24) = w0 at HR HB ⊢
  go_wp2_with (refine wpList_store_row rfl 24 _ _ rfl _ xP rfl rfl _ _ HR.out info_x rfl (by kernel_rfl) ?_)
  (try simp only [Exit.inBlock, Exit.then]); refine bodyPost_ret (results_cell_row rfl _ _ w.heap.size _ _ (0, 0) _ rfl (blk_put HR.out xP) Try.underlying24 rfl info_x) rfl ?_
  exact ⟨rfl, below_put HB.out (Nat.le_refl _) _⟩
/-- the group's text -/
abbrev gname : ByteArray := ⟨#[99, 97, 114, 111, 117, 115, 101, 108]⟩
def grp : ByteArray := ⟨(Cc.nameC gname.data.toList).toArray⟩
set_option maxRecDepth 100000 in
set_option maxHeartbeats 2000000 in
theorem group_at (p : Pl) (w : World) : Calls Try.prog 20 #[plV p] w fun x w' => x = .returned (.string grp) ∧ Below w.heap.size w w' := by
  have HB := Lib.hid ((Below.refl w.heap.size w).alloc (Nat.le_refl _) (.cells (plC p) 24))
  go_enter Try.func20, Try.ntmps20
  go_upto_region 1 with (fail)
  generalize w.alloc (.cells (plC p) 24) = w0 at HB ⊢
  go_wp2_with fail
  refine (Cc.name_at gname w0 (show _ = grp from rfl)).mono ?_
  rintro x w1 ⟨rfl, hb⟩
  have HB1 := Lib.hid (HB.out.trans (hb.mono HB.out.size))
  clear hb
  go_wp2
  go_ret
  exact ⟨rfl, HB1.out⟩
theorem make40 (w : World) : (Instr.makeSlice 54 (.int .i64 40) (.int .i64 40)).run Try.prog w = .ok (.slice (some ⟨w.heap.size, 0, none⟩) 40 40) (w.alloc (.cells (byteVals (noughts 40)).toArray 5)) := by
  obtain ⟨i0, hi, hz0, hz1, hz2⟩ := info_parts info_u8
  have h := run_make (P := Try.prog) w 54 5 i0 (.int .u8 0) Try.underlying54 hi hz0 .i64 .i64 40 40 (by omega) (Int.le_refl _) (by rw [hz2]; decide) (by decide)
  rw [hz1, made_nums] at h
  exact h
set_option maxHeartbeats 1000000 in
theorem rgroup_at (w : World) : Calls Try.prog 21 #[] w fun x w' => x = .returned (.string grp) ∧ Below w.heap.size w w' := by
  have hmk := make40 w
  obtain ⟨C0, hC0⟩ : ∃ C0, C0 = (byteVals (noughts 40)).toArray := ⟨_, rfl⟩
  rw [← hC0] at hmk
  obtain ⟨zs, hzs⟩ : ∃ zs : ByteArray, (⟨(noughts 40).toArray⟩ : ByteArray) = zs := ⟨_, rfl⟩
  have hcv := Oa.back_new (P := Try.prog) (src := 54) (dst := 9) w C0 (noughts 40) 40 40 (by rw [hC0]) rfl Try.underlying54 Try.underlying5 Try.underlying9
  rw [hzs] at hcv
  have hsz : zs.size = 40 := by rw [← hzs]; rfl
  have hb : ¬ 9223372036854775807 < gname.size + zs.size := by rw [hsz]; decide
  have HG := Lib.hid (show gname ++ zs = grp by rw [← hzs]; decide +kernel)
  have HB := Lib.hid ((Below.refl w.heap.size w).alloc (Nat.le_refl _) (.cells C0 5))
  clear hC0 hzs hsz
  go_enter Try.func21, Try.ntmps21
  go_wp2
  go_ret
  exact ⟨by rw [HG.out]; rfl, HB.out⟩
end Go.Proofs.Ytoiggajjbjcabaa.Pn
