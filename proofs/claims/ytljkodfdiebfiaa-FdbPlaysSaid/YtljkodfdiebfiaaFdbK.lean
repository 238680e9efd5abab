/-
  Tables, the document's: Learn.
-/
import Derived.Test.YtljkodfdiebfiaaFdbJ
import Derived.Deep.CutBlock
namespace Go.Proofs.Ytljkodfdiebfiaa.Fd
open Go.RowKit Go.Proofs.Ytljkodfdiebfiaa.Mm Go.Proofs.Ytljkodfdiebfiaa.Tg
set_option linter.unusedSimpArgs false

set_option maxRecDepth 100000 in
set_option maxHeartbeats 2000000 in
theorem rlearn_r1 (room age now p : Int) (v a : Nat) {A : Option Addr} {c n : Nat} {l : List Fr} {w : World} (hA : Rd w w.heap.size A (rowCs l)) (hn : n = l.length) (hin : InK v a)
    (z : ((v : Int) == 0) = true) :
    Calls Try.prog 8 #[rtV room age A n c, .int .i64 now, .int .u16 (v : Int), .int .u64 (a : Int), .int .i64 p] w fun e w' => e = .returned (.tuple #[rtV room age A n c, .int .i64 4]) ∧ Below w.heap.size w w' := by
  have HA0 := Lib.hid hA; have HN := Lib.hid hn; have HI := Lib.hid hin.2
  clear hA hn hin
  go_enter Try.func8, Try.ntmps8
  go_upto_region 1 with (fail)
  have HT := Lib.hid (blk_two w 34 34 (rtC room age A n c) noR)
  have HR := Lib.hid (fresh_second w (.cells (rtC room age A n c) 34) 34 noR)
  have HB := Lib.hid (below_two w (.cells (rtC room age A n c) 34) (.cells noR 34))
  have HA := Lib.hid ((HA0.out.below HB.out).more HB.out.size)
  generalize (w.alloc (.cells (rtC room age A n c) 34)).alloc (.cells noR 34) = w0 at HT HR HB HA ⊢
  cases Rw3.row HT.out
  cases Rw3.row HR.out
  go_wp2
  (try simp only [Exit.inBlock, Exit.then]); refine bodyPost_ret (results_row2 rfl _ _ (w.heap.size + 1) 34 _ (0, 0) _ rfl (Rw3.blk_set HR.out _ _ _) Try.underlying34 rfl info_rt) rfl ?_
  exact ⟨rfl, Rw3.below_set HB.out (by omega) _ _ _⟩
set_option maxRecDepth 100000 in
set_option maxHeartbeats 2000000 in
theorem rlearn_r2 (room age now p : Int) (v a : Nat) {A : Option Addr} {c n : Nat} {l : List Fr} {w : World} (hA : Rd w w.heap.size A (rowCs l)) (hn : n = l.length) (hin : InK v a)
    (z : ((v : Int) == 0) = false) (c2 : decide (4094 < (v : Int)) = true) :
    Calls Try.prog 8 #[rtV room age A n c, .int .i64 now, .int .u16 (v : Int), .int .u64 (a : Int), .int .i64 p] w fun e w' => e = .returned (.tuple #[rtV room age A n c, .int .i64 4]) ∧ Below w.heap.size w w' := by
  have HA0 := Lib.hid hA; have HN := Lib.hid hn; have HI := Lib.hid hin.2
  clear hA hn hin
  go_enter Try.func8, Try.ntmps8
  go_upto_region 1 with (fail)
  have HT := Lib.hid (blk_two w 34 34 (rtC room age A n c) noR)
  have HR := Lib.hid (fresh_second w (.cells (rtC room age A n c) 34) 34 noR)
  have HB := Lib.hid (below_two w (.cells (rtC room age A n c) 34) (.cells noR 34))
  have HA := Lib.hid ((HA0.out.below HB.out).more HB.out.size)
  generalize (w.alloc (.cells (rtC room age A n c) 34)).alloc (.cells noR 34) = w0 at HT HR HB HA ⊢
  cases Rw3.row HT.out
  cases Rw3.row HR.out
  go_wp2
  (try simp only [Exit.inBlock, Exit.then]); refine bodyPost_ret (results_row2 rfl _ _ (w.heap.size + 1) 34 _ (0, 0) _ rfl (Rw3.blk_set HR.out _ _ _) Try.underlying34 rfl info_rt) rfl ?_
  exact ⟨rfl, Rw3.below_set HB.out (by omega) _ _ _⟩
set_option maxRecDepth 100000 in
set_option maxHeartbeats 2000000 in
theorem rlearn_f1 (room age now p : Int) (v a : Nat) {A : Option Addr} {c n : Nat} {l : List Fr} {w : World} (hA : Rd w w.heap.size A (rowCs l)) (hn : n = l.length) (hin : InK v a)
    (z : ((v : Int) == 0) = false) (c2 : decide (4094 < (v : Int)) = false) (hm : Mc.mayB a = false) :
    Calls Try.prog 8 #[rtV room age A n c, .int .i64 now, .int .u16 (v : Int), .int .u64 (a : Int), .int .i64 p] w fun e w' => e = .returned (.tuple #[rtV room age A n c, .int .i64 3]) ∧ Below w.heap.size w w' := by
  have HA0 := Lib.hid hA; have HN := Lib.hid hn; have HI := Lib.hid hin.2
  have HM := Lib.hid hm
  clear hA hn hin hm
  go_enter Try.func8, Try.ntmps8
  go_upto_region 1 with (fail)
  have HT := Lib.hid (blk_two w 34 34 (rtC room age A n c) noR)
  have HR := Lib.hid (fresh_second w (.cells (rtC room age A n c) 34) 34 noR)
  have HB := Lib.hid (below_two w (.cells (rtC room age A n c) 34) (.cells noR 34))
  have HA := Lib.hid ((HA0.out.below HB.out).more HB.out.size)
  generalize (w.alloc (.cells (rtC room age A n c) 34)).alloc (.cells noR 34) = w0 at HT HR HB HA ⊢
  cases Rw3.row HT.out
  cases Rw3.row HR.out
  go_wp2_with (go_at_call 22; refine (Mc.rmay_b _ a _ HM.out).mono ?_; rintro e w' ⟨rfl, rfl⟩)
  (try simp only [Exit.inBlock, Exit.then]); refine bodyPost_ret (results_row2 rfl _ _ (w.heap.size + 1) 34 _ (0, 0) _ rfl (Rw3.blk_set HR.out _ _ _) Try.underlying34 rfl info_rt) rfl ?_
  exact ⟨rfl, Rw3.below_set HB.out (by omega) _ _ _⟩
set_option maxRecDepth 100000 in
set_option maxHeartbeats 2000000 in
theorem rlearn_f2 (room age now p : Int) (v a : Nat) {A : Option Addr} {c n : Nat} {l : List Fr} {w : World} (hA : Rd w w.heap.size A (rowCs l)) (hn : n = l.length) (hin : InK v a)
    (z : ((v : Int) == 0) = false) (c2 : decide (4094 < (v : Int)) = false) (hm : Mc.mayB a = true) (hg : Mc.groupB a = true) :
    Calls Try.prog 8 #[rtV room age A n c, .int .i64 now, .int .u16 (v : Int), .int .u64 (a : Int), .int .i64 p] w fun e w' => e = .returned (.tuple #[rtV room age A n c, .int .i64 3]) ∧ Below w.heap.size w w' := by
  have HA0 := Lib.hid hA; have HN := Lib.hid hn; have HI := Lib.hid hin.2
  have HM := Lib.hid hm
  have HG := Lib.hid hg
  clear hA hn hin hm hg
  go_enter Try.func8, Try.ntmps8
  go_upto_region 1 with (fail)
  have HT := Lib.hid (blk_two w 34 34 (rtC room age A n c) noR)
  have HR := Lib.hid (fresh_second w (.cells (rtC room age A n c) 34) 34 noR)
  have HB := Lib.hid (below_two w (.cells (rtC room age A n c) 34) (.cells noR 34))
  have HA := Lib.hid ((HA0.out.below HB.out).more HB.out.size)
  generalize (w.alloc (.cells (rtC room age A n c) 34)).alloc (.cells noR 34) = w0 at HT HR HB HA ⊢
  cases Rw3.row HT.out
  cases Rw3.row HR.out
  go_wp2_with (first | (go_at_call 22; refine (Mc.rmay_b _ a _ HM.out).mono ?_; rintro e w' ⟨rfl, rfl⟩) | (go_at_call 23; refine (Mc.rgroup_b _ a _ HG.out HI.out).mono ?_; rintro e w' ⟨rfl, rfl⟩))
  (try simp only [Exit.inBlock, Exit.then]); refine bodyPost_ret (results_row2 rfl _ _ (w.heap.size + 1) 34 _ (0, 0) _ rfl (Rw3.blk_set HR.out _ _ _) Try.underlying34 rfl info_rt) rfl ?_
  exact ⟨rfl, Rw3.below_set HB.out (by omega) _ _ _⟩
set_option maxRecDepth 100000 in
set_option maxHeartbeats 2000000 in
theorem rlearn_p1 (room age now p : Int) (v a : Nat) {A : Option Addr} {c n : Nat} {l : List Fr} {w : World} (hA : Rd w w.heap.size A (rowCs l)) (hn : n = l.length) (hin : InK v a)
    (z : ((v : Int) == 0) = false) (c2 : decide (4094 < (v : Int)) = false) (hm : Mc.mayB a = true) (hg : Mc.groupB a = false) (d1 : decide (p < 0) = true) :
    Calls Try.prog 8 #[rtV room age A n c, .int .i64 now, .int .u16 (v : Int), .int .u64 (a : Int), .int .i64 p] w fun e w' => e = .returned (.tuple #[rtV room age A n c, .int .i64 11]) ∧ Below w.heap.size w w' := by
  have HA0 := Lib.hid hA; have HN := Lib.hid hn; have HI := Lib.hid hin.2
  have HM := Lib.hid hm
  have HG := Lib.hid hg
  clear hA hn hin hm hg
  go_enter Try.func8, Try.ntmps8
  go_upto_region 1 with (fail)
  have HT := Lib.hid (blk_two w 34 34 (rtC room age A n c) noR)
  have HR := Lib.hid (fresh_second w (.cells (rtC room age A n c) 34) 34 noR)
  have HB := Lib.hid (below_two w (.cells (rtC room age A n c) 34) (.cells noR 34))
  have HA := Lib.hid ((HA0.out.below HB.out).more HB.out.size)
  generalize (w.alloc (.cells (rtC room age A n c) 34)).alloc (.cells noR 34) = w0 at HT HR HB HA ⊢
  cases Rw3.row HT.out
  cases Rw3.row HR.out
  go_wp2_with (first | (go_at_call 22; refine (Mc.rmay_b _ a _ HM.out).mono ?_; rintro e w' ⟨rfl, rfl⟩) | (go_at_call 23; refine (Mc.rgroup_b _ a _ HG.out HI.out).mono ?_; rintro e w' ⟨rfl, rfl⟩))
  (try simp only [Exit.inBlock, Exit.then]); refine bodyPost_ret (results_row2 rfl _ _ (w.heap.size + 1) 34 _ (0, 0) _ rfl (Rw3.blk_set HR.out _ _ _) Try.underlying34 rfl info_rt) rfl ?_
  exact ⟨rfl, Rw3.below_set HB.out (by omega) _ _ _⟩
set_option maxRecDepth 100000 in
set_option maxHeartbeats 2000000 in
theorem rlearn_p2 (room age now p : Int) (v a : Nat) {A : Option Addr} {c n : Nat} {l : List Fr} {w : World} (hA : Rd w w.heap.size A (rowCs l)) (hn : n = l.length) (hin : InK v a)
    (z : ((v : Int) == 0) = false) (c2 : decide (4094 < (v : Int)) = false) (hm : Mc.mayB a = true) (hg : Mc.groupB a = false) (d1 : decide (p < 0) = false) (d2 : decide (2 < p) = true) :
    Calls Try.prog 8 #[rtV room age A n c, .int .i64 now, .int .u16 (v : Int), .int .u64 (a : Int), .int .i64 p] w fun e w' => e = .returned (.tuple #[rtV room age A n c, .int .i64 11]) ∧ Below w.heap.size w w' := by
  have HA0 := Lib.hid hA; have HN := Lib.hid hn; have HI := Lib.hid hin.2
  have HM := Lib.hid hm
  have HG := Lib.hid hg
  clear hA hn hin hm hg
  go_enter Try.func8, Try.ntmps8
  go_upto_region 1 with (fail)
  have HT := Lib.hid (blk_two w 34 34 (rtC room age A n c) noR)
  have HR := Lib.hid (fresh_second w (.cells (rtC room age A n c) 34) 34 noR)
  have HB := Lib.hid (below_two w (.cells (rtC room age A n c) 34) (.cells noR 34))
  have HA := Lib.hid ((HA0.out.below HB.out).more HB.out.size)
  generalize (w.alloc (.cells (rtC room age A n c) 34)).alloc (.cells noR 34) = w0 at HT HR HB HA ⊢
  cases Rw3.row HT.out
  cases Rw3.row HR.out
  go_wp2_with (first | (go_at_call 22; refine (Mc.rmay_b _ a _ HM.out).mono ?_; rintro e w' ⟨rfl, rfl⟩) | (go_at_call 23; refine (Mc.rgroup_b _ a _ HG.out HI.out).mono ?_; rintro e w' ⟨rfl, rfl⟩))
  (try simp only [Exit.inBlock, Exit.then]); refine bodyPost_ret (results_row2 rfl _ _ (w.heap.size + 1) 34 _ (0, 0) _ rfl (Rw3.blk_set HR.out _ _ _) Try.underlying34 rfl info_rt) rfl ?_
  exact ⟨rfl, Rw3.below_set HB.out (by omega) _ _ _⟩
set_option maxRecDepth 100000 in
set_option maxHeartbeats 2000000 in
theorem rlearn_u (room age now p : Int) (v a : Nat) {A : Option Addr} {c n : Nat} {l : List Fr} {w : World} (hA : Rd w w.heap.size A (rowCs l)) (hn : n = l.length) (hin : InK v a)
    (z : ((v : Int) == 0) = false) (c2 : decide (4094 < (v : Int)) = false) (hm : Mc.mayB a = true) (hg : Mc.groupB a = false) (d1 : decide (p < 0) = false) (d2 : decide (2 < p) = false) {f : Nat} (hf : idx l v a = f) (hl : n ≤ 1024) (hfn : ¬ f < n) (hd : decide (room ≤ (n : Int)) = true) :
    Calls Try.prog 8 #[rtV room age A n c, .int .i64 now, .int .u16 (v : Int), .int .u64 (a : Int), .int .i64 p] w fun e w' => e = .returned (.tuple #[rtV room age A n c, .int .i64 9]) ∧ Below w.heap.size w w' := by
  have HFN := Lib.hid hfn
  clear hfn
  have HA0 := Lib.hid hA; have HN := Lib.hid hn; have HI := Lib.hid hin.2
  have HM := Lib.hid hm
  have HG := Lib.hid hg
  have HF := Lib.hid hf
  clear hA hn hin hm hg hf
  go_enter Try.func8, Try.ntmps8
  go_upto_region 1 with (fail)
  have HT := Lib.hid (blk_two w 34 34 (rtC room age A n c) noR)
  have HR := Lib.hid (fresh_second w (.cells (rtC room age A n c) 34) 34 noR)
  have HB := Lib.hid (below_two w (.cells (rtC room age A n c) 34) (.cells noR 34))
  have HA := Lib.hid ((HA0.out.below HB.out).more HB.out.size)
  generalize (w.alloc (.cells (rtC room age A n c) 34)).alloc (.cells noR 34) = w0 at HT HR HB HA ⊢
  cases Rw3.row HT.out
  cases Rw3.row HR.out
  go_upto_region 7 with (first | (go_at_call 22; refine (Mc.rmay_b _ a _ HM.out).mono ?_; rintro e w' ⟨rfl, rfl⟩) | (go_at_call 23; refine (Mc.rgroup_b _ a _ HG.out HI.out).mono ?_; rintro e w' ⟨rfl, rfl⟩))
  go_wp2_with fail
  refine (find_any (room := room) (age := age) (c := c) HA.out HN.out HF.out hl).mono ?_
  rintro e w1 ⟨rfl, hb⟩
  rw [if_neg HFN.out]
  have HT1 := Lib.hid (HT.out.below hb HT.out.lt)
  have HR1 := Lib.hid (HR.out.below hb HR.out.lt)
  have HA1 := Lib.hid ((HA.out.below hb).more hb.size)
  have HB1 := Lib.hid (HB.out.trans (hb.mono HB.out.size))
  clear hb
  cases Rw3.row HT1.out
  cases Rw3.row HR1.out
  have d0 : decide ((-1 : Int) < 0) = true := rfl
  go_wp2
  (try simp only [Exit.inBlock, Exit.then]); refine bodyPost_ret (results_row2 rfl _ _ (w.heap.size + 1) 34 _ (0, 0) _ rfl (Rw3.blk_set HR1.out _ _ _) Try.underlying34 rfl info_rt) rfl ?_
  exact ⟨rfl, Rw3.below_set HB1.out (by omega) _ _ _⟩
/-- a row's cells, at a place -/
def At4 (w : World) (q : Addr) (v a p s : Int) : Prop := q.block < w.heap.size ∧ w.cell? q = some (.int .u16 v) ∧ w.cell? ⟨q.block, q.off + 1, none⟩ = some (.int .u64 a) ∧ w.cell? ⟨q.block, q.off + 2, none⟩ = some (.int .i64 p) ∧ w.cell? ⟨q.block, q.off + 3, none⟩ = some (.int .i64 s)
theorem At4.keep (q : Addr) (v a p s : Int) : Rg.Keeps (fun w => At4 w q v a p s) := fun _ _ h hb =>
  ⟨Nat.lt_of_lt_of_le h.1 hb.size, (hb.cell h.1).trans h.2.1, (hb.cell (p := ⟨q.block, q.off + 1, none⟩) h.1).trans h.2.2.1, (hb.cell (p := ⟨q.block, q.off + 2, none⟩) h.1).trans h.2.2.2.1, (hb.cell (p := ⟨q.block, q.off + 3, none⟩) h.1).trans h.2.2.2.2⟩
theorem rd_at {w : World} {A : Option Addr} {l : List Fr} (h : Rd w w.heap.size A (rowCs l)) {i : Nat} {v a : Nat} {p s : Int} (hi : l[i]? = some ⟨v, a, p, s⟩) : ∃ ad : Addr, A = some ad ∧ At4 w (ad.add (i * 4)) v a p s := by
  obtain ⟨ad, e, hb, c⟩ := rd_row h hi
  exact ⟨ad, e, by rw [block_add]; exact hb, c⟩
/-- how many rows stand ahead -/
def tw (l : List Fr) (x : Fr) : Nat := (l.takeWhile (fun y => decide (klt y x))).length
theorem tw_le (l : List Fr) (x : Fr) : tw l x ≤ l.length := by
  unfold tw
  exact (List.takeWhile_prefix _).length_le
theorem tw_take (l : List Fr) (x : Fr) : l.takeWhile (fun y => decide (klt y x)) = l.take (tw l x) := (List.prefix_iff_eq_take.1 (List.takeWhile_prefix _))
theorem tw_lt {l : List Fr} {x : Fr} {i : Nat} (h : i < tw l x) (hi : i < l.length) : klt l[i] x := by
  have h1 : l[i] ∈ l.takeWhile (fun y => decide (klt y x)) := by
    rw [tw_take, List.mem_take_iff_getElem]
    exact ⟨i, by omega, rfl⟩
  have := List.all_takeWhile (l := l) (p := fun y => decide (klt y x))
  rw [List.all_eq_true] at this
  simpa using this _ h1
theorem tw_end {l : List Fr} {x : Fr} (hi : tw l x < l.length) : ¬ klt l[tw l x] x := by
  unfold tw at hi ⊢
  induction l with
  | nil => simp at hi
  | cons y l ih =>
    by_cases h : klt y x
    · simp only [List.takeWhile_cons, h, decide_true, if_true, List.length_cons] at hi ⊢
      simpa using ih (by omega)
    · simp [h]

set_option maxRecDepth 100000 in
set_option maxHeartbeats 8000000 in
theorem rlearn_ok (room age now p : Int) (v a : Nat) {A : Option Addr} {c n f : Nat} {l : List Fr} {w : World} (hA : Rd w w.heap.size A (rowCs l)) (hn : n = l.length) (hin : InK v a)
    (z : ((v : Int) == 0) = false) (c2 : decide (4094 < (v : Int)) = false) (hm : Mc.mayB a = true) (hg : Mc.groupB a = false) (d1 : decide (p < 0) = false) (d2 : decide (2 < p) = false) (hf : idx l v a = f) (hl : n ≤ 1024) (hfn : f < n ∨ decide (room ≤ (n : Int)) = false) :
    Calls Try.prog 8 #[rtV room age A n c, .int .i64 now, .int .u16 (v : Int), .int .u64 (a : Int), .int .i64 p] w fun e w' => ∃ A' c', e = .returned (.tuple #[rtV room age A' (ins l ⟨v, a, p, now⟩).length c', .int .i64 0]) ∧ Rd w' w'.heap.size A' (rowCs (ins l ⟨v, a, p, now⟩)) ∧ Below w.heap.size w w' := by
  have HFN := Lib.hid hfn; clear hfn
  obtain ⟨i0, hi, hz0, hz1, hz2⟩ := info_parts info_rr
  have HA0 := Lib.hid hA; have HN := Lib.hid hn; have HI := Lib.hid hin.2
  have HM := Lib.hid hm
  have HG := Lib.hid hg
  have HF := Lib.hid hf
  clear hA hn hin hm hg hf
  go_enter Try.func8, Try.ntmps8
  go_upto_region 1 with (fail)
  have HT := Lib.hid (blk_two w 34 34 (rtC room age A n c) noR)
  have HR := Lib.hid (fresh_second w (.cells (rtC room age A n c) 34) 34 noR)
  have HB := Lib.hid (below_two w (.cells (rtC room age A n c) 34) (.cells noR 34))
  have HA := Lib.hid ((HA0.out.below HB.out).more HB.out.size)
  generalize (w.alloc (.cells (rtC room age A n c) 34)).alloc (.cells noR 34) = w0 at HT HR HB HA ⊢
  cases Rw3.row HT.out
  cases Rw3.row HR.out
  go_upto_region 7 with (first | (go_at_call 22; refine (Mc.rmay_b _ a _ HM.out).mono ?_; rintro e w' ⟨rfl, rfl⟩) | (go_at_call 23; refine (Mc.rgroup_b _ a _ HG.out HI.out).mono ?_; rintro e w' ⟨rfl, rfl⟩))
  go_cut [50] (fun s50 wx => s50 = .bool false ∧ Blk wx w.heap.size 34 (rtC room age A n c) ∧ Blk wx (w.heap.size + 1) 34 noR ∧ Rd wx wx.heap.size A (rowCs l) ∧ Below w.heap.size w wx)
  case first =>
    go_wp2_with fail
    refine (find_any (room := room) (age := age) (c := c) HA.out HN.out HF.out hl).mono ?_
    rintro e w1 ⟨rfl, hb⟩
    have HT1 := Lib.hid (HT.out.below hb HT.out.lt)
    have HR1 := Lib.hid (HR.out.below hb HR.out.lt)
    have HA1 := Lib.hid ((HA.out.below hb).more hb.size)
    have HB1 := Lib.hid (HB.out.trans (hb.mono HB.out.size))
    clear hb
    cases Rw3.row HT1.out
    by_cases hlt : f < n
    · rw [if_pos hlt]
      have d0 : decide ((f : Int) < 0) = false := decide_eq_false (by omega)
      go_wp2_with fail
      go_meet
      exact ⟨rfl, HT1.out, HR1.out, HA1.out, HB1.out⟩
    · rw [if_neg hlt]
      have d0 : decide ((-1 : Int) < 0) = true := rfl
      have d3 : decide (room ≤ (n : Int)) = false := HFN.out.resolve_left hlt
      go_wp2_with fail
      go_meet
      exact ⟨rfl, HT1.out, HR1.out, HA1.out, HB1.out⟩
  case rest =>
    obtain ⟨rfl, hT, hR, hA, hB⟩ := hcut
    have HT1 := Lib.hid hT; have HR1 := Lib.hid hR; have HA1 := Lib.hid hA; have HB1 := Lib.hid hB
    clear hT hR hA hB
    go_upto_region 10 with (fail)
    obtain ⟨z, hz⟩ : ∃ z, z = wc.heap.size := ⟨_, rfl⟩
    have hQ := (Below.refl wc.heap.size wc).alloc (Nat.le_refl _) (.cells #[.int .u16 (v : Int), .int .u64 (a : Int), .int .i64 p, .int .i64 now] 66)
    have L1 : w.heap.size + 1 < z := by rw [hz]; exact HR1.out.lt
    have HT2 := Lib.hid (HT1.out.below hQ HT1.out.lt)
    have HR2 := Lib.hid (HR1.out.below hQ HR1.out.lt)
    have HA2 := Lib.hid ((HA1.out.below hQ).more hQ.size)
    have HX2 := Lib.hid (Blk.fresh wc 66 #[.int .u16 (v : Int), .int .u64 (a : Int), .int .i64 p, .int .i64 now])
    have HB2 := Lib.hid (HB1.out.trans (hQ.mono HB1.out.size))
    rw [← hz] at HX2 ⊢
    clear hQ hz
    generalize wc.alloc (.cells #[.int .u16 (v : Int), .int .u64 (a : Int), .int .i64 p, .int .i64 now] 66) = w2 at HT2 HR2 HA2 HX2 HB2 ⊢
    obtain ⟨base, hbase⟩ : ∃ base, base = w2.heap.size := ⟨_, rfl⟩
    have L2 : z < base := by rw [hbase]; exact HX2.out.lt
    have LB : base ≤ w2.heap.size := by omega
    obtain ⟨t, ht⟩ : ∃ t, t = tw l ⟨v, a, p, now⟩ := ⟨_, rfl⟩
    have htl : t ≤ n := by rw [ht, HN.out]; exact tw_le _ _
    have HTW := Lib.hid ht
    clear ht
    cases Rw3.row HT2.out
    go_upto_block 0 with (fail)
    go_cut [13] (fun s13 wx => ∃ (R : Option Addr) (rc : Nat), s13 = .slice R t rc ∧ wx.ownsRow base 66 4 (.slice R t rc) t (rowCs (l.take t)) ∧ base ≤ wx.heap.size ∧ Below base w2 wx)
    case first =>
      go_wp2_with fail
      go_loopw [13, 14] (fun s i wr => ∃ (k : Nat) (R : Option Addr) (rc : Nat), k ≤ t ∧ i = .int .i64 k ∧ s = .slice R k rc ∧ wr.ownsRow base 66 4 (.slice R k rc) k (rowCs (l.take k)) ∧ base ≤ wr.heap.size ∧ Below base w2 wr) (fun _ i _ => n - (intOf i).toNat)
      case atStart => exact ⟨0, none, 0, Nat.zero_le _, rfl, rfl, World.ownsRow_nil _ _ _ _, LB, Below.refl _ _⟩
      case round =>
        obtain ⟨k, R, rc, hk, rfl, rfl, hown, hbs, hbw⟩ := hrel
        have HO := Lib.hid hown; have HBw := Lib.hid hbw
        clear hown hbw
        have HTw := Lib.hid (HT2.out.below HBw.out (by omega))
        have HXw := Lib.hid (HX2.out.below HBw.out (by omega))
        have HAw := Lib.hid (HA2.out.keep (fun q hq => HBw.out.cell (by omega)))
        by_cases hlt : k < n
        · have hkl : k < l.length := by rw [← HN.out]; exact hlt
          obtain ⟨y, hy⟩ : ∃ y, y = l[k] := ⟨_, rfl⟩
          obtain ⟨yv, ya, yp, ys⟩ := y
          have hgy : l[k]? = some ⟨yv, ya, yp, ys⟩ := by rw [List.getElem?_eq_getElem hkl, ← hy]
          obtain ⟨ad, rfl, hq⟩ := rd_at (HAw.out.more (show w2.heap.size ≤ wr.heap.size from HBw.out.size)) hgy
          have HQ := Lib.hid hq
          have hd0 : decide ((k : Int) < (n : Int)) = true := decide_eq_true (by omega)
          clear hq
          cases hbe : decide (klt ⟨yv, ya, yp, ys⟩ ⟨v, a, p, now⟩) with
          | true =>
            have HBE := Lib.hid hbe
            have hk1 : k + 1 ≤ t := by
              rcases Nat.lt_or_ge k t with g | g
              · exact g
              · have e : tw l ⟨v, a, p, now⟩ = k := by have := HTW.out; omega
                have e2 := tw_end (l := l) (x := ⟨v, a, p, now⟩) (by rw [e]; exact hkl)
                have e3 : ¬ klt l[k] ⟨v, a, p, now⟩ := by simpa only [e] using e2
                rw [← hy] at e3
                exact absurd hbe (by simpa using e3)
            have HY := Lib.hid hy
            clear hbe hy hgy
            cases Rw3.row HTw.out
            go_upto_region 12 with (fail)

            refine wp_region_held_drew (S := fun wx => Blk wx w.heap.size 34 (rtC room age (some ad) n c) ∧ Blk wx z 66 #[.int .u16 (v : Int), .int .u64 (a : Int), .int .i64 p, .int .i64 now] ∧ At4 wx (ad.add (k * 4)) (yv : Int) (ya : Int) yp ys) (by kernel_rfl) ⟨HTw.out.drew, HXw.out.drew, HQ.out⟩ (fun hHeld => ?_)
            have HBR := Lib.hid ((Below.refl wr.heap.size wr).drew)
            have KS := Lib.hid (((Rg.Keeps.one w.heap.size 34 (rtC room age (some ad) n c)).and ((Rg.Keeps.one z 66 #[.int .u16 (v : Int), .int .u64 (a : Int), .int .i64 p, .int .i64 now]).and (At4.keep (ad.add (k * 4)) (yv : Int) (ya : Int) yp ys))))
            generalize wr.drew = wd at hHeld HBR ⊢
            refine Rg.tk 0 (v := ?_) ?_ ?_
            rotate_left
            · (intro wx hSx; go_simp; all_goals with_reducible rfl)
            simp only [Act.put, Rg.e1, Rg.e2, Rg.e3, Rg.e4, Rg.e5, Rg.e6]
            refine Rg.tk 1 (v := ?_) ?_ ?_
            rotate_left
            · (intro wx hSx; go_simp; all_goals with_reducible rfl)
            simp only [Act.put, Rg.e1, Rg.e2, Rg.e3, Rg.e4, Rg.e5, Rg.e6]
            refine Rg.tk 2 (v := ?_) ?_ ?_
            rotate_left
            · intro wx hSx
              cases Rw3.row hSx.1; cases Rw4.row hSx.2.1; obtain ⟨_, e0, e1, e2, e3⟩ := hSx.2.2; go_simp
              all_goals with_reducible rfl
            simp only [Act.put, Rg.e1, Rg.e2, Rg.e3, Rg.e4, Rg.e5, Rg.e6]
            refine Rg.tk 3 (v := ?_) ?_ ?_
            rotate_left
            · (intro wx hSx; go_simp; all_goals with_reducible rfl)
            simp only [Act.put, Rg.e1, Rg.e2, Rg.e3, Rg.e4, Rg.e5, Rg.e6]
            refine Rg.tk 4 (v := ?_) ?_ ?_
            rotate_left
            · (intro wx hSx; go_simp; all_goals with_reducible rfl)
            simp only [Act.put, Rg.e1, Rg.e2, Rg.e3, Rg.e4, Rg.e5, Rg.e6]
            refine Rg.tk 5 (v := ?_) ?_ ?_
            rotate_left
            · (intro wx hSx; go_simp; all_goals with_reducible rfl)
            simp only [Act.put, Rg.e1, Rg.e2, Rg.e3, Rg.e4, Rg.e5, Rg.e6]
            refine Rg.tk 6 (v := ?_) ?_ ?_
            rotate_left
            · (intro wx hSx; go_simp; all_goals with_reducible rfl)
            simp only [Act.put, Rg.e1, Rg.e2, Rg.e3, Rg.e4, Rg.e5, Rg.e6]
            refine Rg.tk 7 (v := ?_) ?_ ?_
            rotate_left
            · intro wx hSx
              cases Rw3.row hSx.1; cases Rw4.row hSx.2.1; obtain ⟨_, e0, e1, e2, e3⟩ := hSx.2.2; go_simp
              all_goals with_reducible rfl
            simp only [Act.put, Rg.e1, Rg.e2, Rg.e3, Rg.e4, Rg.e5, Rg.e6]
            refine Rg.tk 8 (v := ?_) ?_ ?_
            rotate_left
            · (intro wx hSx; go_simp; all_goals with_reducible rfl)
            simp only [Act.put, Rg.e1, Rg.e2, Rg.e3, Rg.e4, Rg.e5, Rg.e6]
            refine Rg.tk 9 (v := ?_) ?_ ?_
            rotate_left
            · (intro wx hSx; go_simp; all_goals with_reducible rfl)
            simp only [Act.put, Rg.e1, Rg.e2, Rg.e3, Rg.e4, Rg.e5, Rg.e6]
            refine Rg.tk 10 (v := ?_) ?_ ?_
            rotate_left
            · intro wx hSx
              cases Rw3.row hSx.1; cases Rw4.row hSx.2.1; obtain ⟨_, e0, e1, e2, e3⟩ := hSx.2.2; go_simp
              all_goals with_reducible rfl
            simp only [Act.put, Rg.e1, Rg.e2, Rg.e3, Rg.e4, Rg.e5, Rg.e6]
            refine Rg.tk 11 (v := ?_) ?_ ?_
            rotate_left
            · intro wx hSx
              cases Rw3.row hSx.1; cases Rw4.row hSx.2.1; obtain ⟨_, e0, e1, e2, e3⟩ := hSx.2.2; go_simp
              all_goals with_reducible rfl
            simp only [Act.put, Rg.e1, Rg.e2, Rg.e3, Rg.e4, Rg.e5, Rg.e6]
            refine wpAnyH_ready (rs := [12]) (by kernel_rfl) (by simp) ?_
            refine .cons (o := _) rfl (fun K hK => ?_) ?_
            · go_simp
              refine (before_any (x := ⟨yv, ya, yp, ys⟩) (y := ⟨v, a, p, now⟩) HBE.out _).mono ?_
              rintro e wr1 ⟨rfl, hbc⟩
              go_wp2_with fail
              refine Rg.st_call hK hHeld KS.out HBR.out hbc ?_
              clear hK K
              intro hHeld hbr
              have HBR := Lib.hid hbr
              clear hbr hbc
              try simp only [Rg.e1, Rg.e2, Rg.e3]
              refine Rg.tk 13 (v := ?_) ?_ ?_
              rotate_left
              · (intro wx hSx; go_simp; all_goals with_reducible rfl)
              simp only [Act.put, Rg.e1, Rg.e2, Rg.e3, Rg.e4, Rg.e5, Rg.e6]
              refine wpAnyH_done (by kernel_rfl) ?_ _
              have HO1 := Lib.hid (own_below HO.out HBR.out)
              have HBw1 := Lib.hid (HBw.out.trans (HBR.out.mono hbs))
              have hbs1 : base ≤ wr1.heap.size := Nat.le_trans hbs HBR.out.size
              have hh := hHeld
              clear hHeld KS
              cases Rw3.row hh.1
              obtain ⟨_, e0, e1, e2, e3⟩ := hh.2.2
              clear hh
              go_wp2_with (at_builtin; refine wpList_append_own _ rfl (.tmp 73) (.tmp 79) 32 rfl base 66 i0 (.agg #[.int .u16 0, .int .u64 0, .int .i64 0, .int .i64 0]) 4 32 Try.underlying32 hi hz0 hz1 hz2 rfl (by decide) _ _ _ rfl (HO1.out.alloc _) ⟨wr1.heap.size, 0, none⟩ 1 1 (e4 ⟨yv, ya, yp, ys⟩) rfl rfl (cells_new _ _ _ _ _ rfl rfl) (e4_one _) (by unfold maxLen; omega) (by omega) (by simp; omega) ?_; intro v' w5 hown' hgrow _)
              obtain ⟨R', c', rfl⟩ := own_slice hown'
              have hlo := (HO1.out.alloc (.cells (e4 ⟨yv, ya, yp, ys⟩).toArray 66)).lt
              have HB5 := Lib.hid ((HBw1.out.alloc hbs1 (.cells (e4 ⟨yv, ya, yp, ys⟩).toArray 66)).grown hgrow (by simp; omega) (fun k hk => (hlo k hk).1))
              have HO5 := Lib.hid hown'
              have L5 : base ≤ w5.heap.size := Nat.le_trans (by simp; omega) hgrow.size
              clear hown' hgrow hlo
              go_roundw
              case rel =>
                refine ⟨k + 1, R', c', hk1, by go_num, rfl, ?_, L5, HB5.out⟩
                rw [List.take_succ_eq_append_getElem hkl, rowCs_app, rowCs_one, ← HY.out]
                exact HO5.out
              case measure => simp [intOf]; omega
            exact AllReadyH.nil
          | false =>
            have HBE := Lib.hid hbe
            have hek : k = t := by
              rcases Nat.lt_or_ge k t with g | g
              · have e2 := tw_lt (l := l) (x := ⟨v, a, p, now⟩) (i := k) (by have := HTW.out; omega) hkl
                rw [← hy] at e2
                exact absurd e2 (by simpa using hbe)
              · omega
            have HEK := Lib.hid hek
            clear hbe hy hgy hek
            cases Rw3.row HTw.out
            go_upto_region 12 with (fail)

            refine wp_region_held_drew (S := fun wx => Blk wx w.heap.size 34 (rtC room age (some ad) n c) ∧ Blk wx z 66 #[.int .u16 (v : Int), .int .u64 (a : Int), .int .i64 p, .int .i64 now] ∧ At4 wx (ad.add (k * 4)) (yv : Int) (ya : Int) yp ys) (by kernel_rfl) ⟨HTw.out.drew, HXw.out.drew, HQ.out⟩ (fun hHeld => ?_)
            have HBR := Lib.hid ((Below.refl wr.heap.size wr).drew)
            have KS := Lib.hid (((Rg.Keeps.one w.heap.size 34 (rtC room age (some ad) n c)).and ((Rg.Keeps.one z 66 #[.int .u16 (v : Int), .int .u64 (a : Int), .int .i64 p, .int .i64 now]).and (At4.keep (ad.add (k * 4)) (yv : Int) (ya : Int) yp ys))))
            generalize wr.drew = wd at hHeld HBR ⊢
            refine Rg.tk 0 (v := ?_) ?_ ?_
            rotate_left
            · (intro wx hSx; go_simp; all_goals with_reducible rfl)
            simp only [Act.put, Rg.e1, Rg.e2, Rg.e3, Rg.e4, Rg.e5, Rg.e6]
            refine Rg.tk 1 (v := ?_) ?_ ?_
            rotate_left
            · (intro wx hSx; go_simp; all_goals with_reducible rfl)
            simp only [Act.put, Rg.e1, Rg.e2, Rg.e3, Rg.e4, Rg.e5, Rg.e6]
            refine Rg.tk 2 (v := ?_) ?_ ?_
            rotate_left
            · intro wx hSx
              cases Rw3.row hSx.1; cases Rw4.row hSx.2.1; obtain ⟨_, e0, e1, e2, e3⟩ := hSx.2.2; go_simp
              all_goals with_reducible rfl
            simp only [Act.put, Rg.e1, Rg.e2, Rg.e3, Rg.e4, Rg.e5, Rg.e6]
            refine Rg.tk 3 (v := ?_) ?_ ?_
            rotate_left
            · (intro wx hSx; go_simp; all_goals with_reducible rfl)
            simp only [Act.put, Rg.e1, Rg.e2, Rg.e3, Rg.e4, Rg.e5, Rg.e6]
            refine Rg.tk 4 (v := ?_) ?_ ?_
            rotate_left
            · (intro wx hSx; go_simp; all_goals with_reducible rfl)
            simp only [Act.put, Rg.e1, Rg.e2, Rg.e3, Rg.e4, Rg.e5, Rg.e6]
            refine Rg.tk 5 (v := ?_) ?_ ?_
            rotate_left
            · (intro wx hSx; go_simp; all_goals with_reducible rfl)
            simp only [Act.put, Rg.e1, Rg.e2, Rg.e3, Rg.e4, Rg.e5, Rg.e6]
            refine Rg.tk 6 (v := ?_) ?_ ?_
            rotate_left
            · (intro wx hSx; go_simp; all_goals with_reducible rfl)
            simp only [Act.put, Rg.e1, Rg.e2, Rg.e3, Rg.e4, Rg.e5, Rg.e6]
            refine Rg.tk 7 (v := ?_) ?_ ?_
            rotate_left
            · intro wx hSx
              cases Rw3.row hSx.1; cases Rw4.row hSx.2.1; obtain ⟨_, e0, e1, e2, e3⟩ := hSx.2.2; go_simp
              all_goals with_reducible rfl
            simp only [Act.put, Rg.e1, Rg.e2, Rg.e3, Rg.e4, Rg.e5, Rg.e6]
            refine Rg.tk 8 (v := ?_) ?_ ?_
            rotate_left
            · (intro wx hSx; go_simp; all_goals with_reducible rfl)
            simp only [Act.put, Rg.e1, Rg.e2, Rg.e3, Rg.e4, Rg.e5, Rg.e6]
            refine Rg.tk 9 (v := ?_) ?_ ?_
            rotate_left
            · (intro wx hSx; go_simp; all_goals with_reducible rfl)
            simp only [Act.put, Rg.e1, Rg.e2, Rg.e3, Rg.e4, Rg.e5, Rg.e6]
            refine Rg.tk 10 (v := ?_) ?_ ?_
            rotate_left
            · intro wx hSx
              cases Rw3.row hSx.1; cases Rw4.row hSx.2.1; obtain ⟨_, e0, e1, e2, e3⟩ := hSx.2.2; go_simp
              all_goals with_reducible rfl
            simp only [Act.put, Rg.e1, Rg.e2, Rg.e3, Rg.e4, Rg.e5, Rg.e6]
            refine Rg.tk 11 (v := ?_) ?_ ?_
            rotate_left
            · intro wx hSx
              cases Rw3.row hSx.1; cases Rw4.row hSx.2.1; obtain ⟨_, e0, e1, e2, e3⟩ := hSx.2.2; go_simp
              all_goals with_reducible rfl
            simp only [Act.put, Rg.e1, Rg.e2, Rg.e3, Rg.e4, Rg.e5, Rg.e6]
            refine wpAnyH_ready (rs := [12]) (by kernel_rfl) (by simp) ?_
            refine .cons (o := _) rfl (fun K hK => ?_) ?_
            · go_simp
              refine (before_any (x := ⟨yv, ya, yp, ys⟩) (y := ⟨v, a, p, now⟩) HBE.out _).mono ?_
              rintro e wr1 ⟨rfl, hbc⟩
              go_wp2_with fail
              refine Rg.st_call hK hHeld KS.out HBR.out hbc ?_
              clear hK K
              intro hHeld hbr
              have HBR := Lib.hid hbr
              clear hbr hbc
              try simp only [Rg.e1, Rg.e2, Rg.e3]
              refine Rg.tk 13 (v := ?_) ?_ ?_
              rotate_left
              · (intro wx hSx; go_simp; all_goals with_reducible rfl)
              simp only [Act.put, Rg.e1, Rg.e2, Rg.e3, Rg.e4, Rg.e5, Rg.e6]
              refine wpAnyH_done (by kernel_rfl) ?_ _
              have HO1 := Lib.hid (own_below HO.out HBR.out)
              have HBw1 := Lib.hid (HBw.out.trans (HBR.out.mono hbs))
              have hbs1 : base ≤ wr1.heap.size := Nat.le_trans hbs HBR.out.size
              have hh := hHeld
              clear hHeld KS
              cases Rw3.row hh.1
              obtain ⟨_, e0, e1, e2, e3⟩ := hh.2.2
              clear hh
              go_wp2_with fail
              go_meet
              rw [← HEK.out]
              exact ⟨R, rc, rfl, HO1.out, hbs1, HBw1.out⟩
            exact AllReadyH.nil
        · have hd0 : decide ((k : Int) < (n : Int)) = false := decide_eq_false (by omega)
          have HEK : Hid (k = t) := Lib.hid (by omega)
          cases Rw3.row HTw.out
          go_upto_region 12 with (fail)
          go_quiet (fail)
          go_wp2_with fail
          go_meet
          rw [← HEK.out]
          exact ⟨R, rc, rfl, own_drewN HO.out nq, hbs, below_drewN HBw.out nq⟩
    case rest =>
      obtain ⟨R, rc, rfl, hown, hbs, hbw⟩ := hcut
      have HO := Lib.hid hown; have HBw := Lib.hid hbw
      clear hown hbw
      have HT3 := Lib.hid (HT2.out.below HBw.out (by omega))
      have HX3 := Lib.hid (HX2.out.below HBw.out (by omega))
      have HR3 := Lib.hid (HR2.out.below HBw.out (by omega))
      have HA3 := Lib.hid (HA2.out.keep (fun q hq => HBw.out.cell (by omega)))
      obtain ⟨q, hq⟩ : ∃ q : Fr → Bool, q = fun y => decide (klt ⟨v, a, p, now⟩ y) := ⟨_, rfl⟩
      obtain ⟨G, hG⟩ : ∃ G : Nat → List Fr, G = fun k => l.take t ++ ⟨v, a, p, now⟩ :: (l.take k).filter q := ⟨_, rfl⟩
      have HGQ : Hid (∀ y, q y = decide (klt ⟨v, a, p, now⟩ y)) := Lib.hid (fun y => by rw [hq])
      have HG0 : Hid (G 0 = l.take t ++ [⟨v, a, p, now⟩]) := Lib.hid (by rw [hG]; simp)
      have HGL : Hid ((G 0).length = t + 1) := Lib.hid (by rw [HG0.out, List.length_append, List.length_take]; have := HN.out; simp; omega)
      have HGS : Hid (∀ k (hk : k < l.length), G (k + 1) = G k ++ if q l[k] then [l[k]] else []) := Lib.hid (fun k hk => by rw [hG]; dsimp only; rw [filter_take l q k hk]; simp)
      have HGB : Hid (∀ k, (G k).length ≤ 1025 + k) := Lib.hid (fun k => by rw [hG]; dsimp only; have := filter_len l q k; rw [List.length_append, List.length_take, List.length_cons]; omega)
      have HGE : Hid (G n = ins l ⟨v, a, p, now⟩) := Lib.hid (by rw [hG]; dsimp only; rw [HN.out, List.take_length, hq, HTW.out]; unfold ins; rw [tw_take])
      clear hq hG
      have HO1 := HO; have HBw1 := HBw; have hbs1 := hbs
      cases Rw4.row HX3.out

      go_upto_block 2 with (at_builtin; refine wpList_append_own _ rfl (.tmp 81) (.tmp 83) 32 rfl base 66 i0 (.agg #[.int .u16 0, .int .u64 0, .int .i64 0, .int .i64 0]) 4 32 Try.underlying32 hi hz0 hz1 hz2 rfl (by decide) _ _ _ rfl (HO1.out.alloc _) ⟨wc.heap.size, 0, none⟩ 1 1 (e4 ⟨v, a, p, now⟩) rfl rfl (cells_new _ _ _ _ _ rfl rfl) (e4_one _) (by unfold maxLen; omega) (by omega) (by simp; omega) ?_; intro v' w5 hown' hgrow _)
      obtain ⟨R', c', rfl⟩ := own_slice hown'
      have hlo := (HO1.out.alloc (.cells (e4 ⟨v, a, p, now⟩).toArray 66)).lt
      have HB5 := Lib.hid ((HBw1.out.alloc hbs1 (.cells (e4 ⟨v, a, p, now⟩).toArray 66)).grown hgrow (by simp; omega) (fun k hk => (hlo k hk).1))
      have HO5 := Lib.hid hown'
      have L5 : base ≤ w5.heap.size := Nat.le_trans (by simp; omega) hgrow.size
      clear hown' hgrow hlo
      have HT5 := Lib.hid (HT2.out.below HB5.out (by omega))
      have HX5 := Lib.hid (HX2.out.below HB5.out (by omega))
      cases Rw3.row HT5.out
      go_wp2_with fail
      go_loopw [13, 15] (fun s i wr => ∃ (k : Nat) (R : Option Addr) (rc : Nat), k ≤ n ∧ i = .int .i64 k ∧ s = .slice R (G k).length rc ∧ wr.ownsRow base 66 4 (.slice R (G k).length rc) (G k).length (rowCs (G k)) ∧ base ≤ wr.heap.size ∧ Below base w2 wr) (fun _ i _ => n - (intOf i).toNat)
      case atStart => exact ⟨0, R', c', Nat.zero_le _, rfl, by rw [HGL.out], by rw [HGL.out, HG0.out, rowCs_app, rowCs_one]; exact HO5.out, L5, HB5.out⟩
      case round =>
        clear HO1 HBw1 hbs1 HBw hbs HO L5 HB5 HO5 HT5 HX5 HT3 HX3 HR3 HA3
        obtain ⟨k, R, rc, hk, rfl, rfl, hown, hbs, hbw⟩ := hrel
        have HO := Lib.hid hown; have HBw := Lib.hid hbw
        clear hown hbw
        have HTw := Lib.hid (HT2.out.below HBw.out (by omega))
        have HXw := Lib.hid (HX2.out.below HBw.out (by omega))
        have HAw := Lib.hid (HA2.out.keep (fun q hq => HBw.out.cell (by omega)))
        have hgb := HGB.out k
        by_cases hlt : k < n
        · have hkl : k < l.length := by rw [← HN.out]; exact hlt
          have HGK := Lib.hid (HGS.out k hkl)
          obtain ⟨y, hy⟩ : ∃ y, y = l[k] := ⟨_, rfl⟩
          rw [← hy] at HGK
          obtain ⟨yv, ya, yp, ys⟩ := y
          have hgy : l[k]? = some ⟨yv, ya, yp, ys⟩ := by rw [List.getElem?_eq_getElem hkl, ← hy]
          obtain ⟨ad, rfl, hq⟩ := rd_at (HAw.out.more (show w2.heap.size ≤ wr.heap.size from HBw.out.size)) hgy
          have HQ := Lib.hid hq
          have hd0 : decide ((k : Int) < (n : Int)) = true := decide_eq_true (by omega)
          rw [HGQ.out] at HGK
          clear hq hy hgy
          cases hbe : decide (klt ⟨v, a, p, now⟩ ⟨yv, ya, yp, ys⟩) with
          | true =>
            rw [hbe, if_pos rfl] at HGK
            have HBE := Lib.hid hbe
            clear hbe
            cases Rw3.row HTw.out
            go_upto_region 19 with (fail)

            refine wp_region_held_drew (S := fun wx => Blk wx w.heap.size 34 (rtC room age (some ad) n c) ∧ Blk wx z 66 #[.int .u16 (v : Int), .int .u64 (a : Int), .int .i64 p, .int .i64 now] ∧ At4 wx (ad.add (k * 4)) (yv : Int) (ya : Int) yp ys) (by kernel_rfl) ⟨HTw.out.drew, HXw.out.drew, HQ.out⟩ (fun hHeld => ?_)
            have HBR := Lib.hid ((Below.refl wr.heap.size wr).drew)
            have KS := Lib.hid (((Rg.Keeps.one w.heap.size 34 (rtC room age (some ad) n c)).and ((Rg.Keeps.one z 66 #[.int .u16 (v : Int), .int .u64 (a : Int), .int .i64 p, .int .i64 now]).and (At4.keep (ad.add (k * 4)) (yv : Int) (ya : Int) yp ys))))
            generalize wr.drew = wd at hHeld HBR ⊢
            refine Rg.tk 0 (v := ?_) ?_ ?_
            rotate_left
            · intro wx hSx
              cases Rw3.row hSx.1; cases Rw4.row hSx.2.1; obtain ⟨_, e0, e1, e2, e3⟩ := hSx.2.2; go_simp
              all_goals with_reducible rfl
            simp only [Act.put, Rg.e1, Rg.e2, Rg.e3, Rg.e4, Rg.e5, Rg.e6]
            refine Rg.tk 1 (v := ?_) ?_ ?_
            rotate_left
            · (intro wx hSx; go_simp; all_goals with_reducible rfl)
            simp only [Act.put, Rg.e1, Rg.e2, Rg.e3, Rg.e4, Rg.e5, Rg.e6]
            refine Rg.tk 2 (v := ?_) ?_ ?_
            rotate_left
            · intro wx hSx
              cases Rw3.row hSx.1; cases Rw4.row hSx.2.1; obtain ⟨_, e0, e1, e2, e3⟩ := hSx.2.2; go_simp
              all_goals with_reducible rfl
            simp only [Act.put, Rg.e1, Rg.e2, Rg.e3, Rg.e4, Rg.e5, Rg.e6]
            refine Rg.tk 3 (v := ?_) ?_ ?_
            rotate_left
            · (intro wx hSx; go_simp; all_goals with_reducible rfl)
            simp only [Act.put, Rg.e1, Rg.e2, Rg.e3, Rg.e4, Rg.e5, Rg.e6]
            refine Rg.tk 4 (v := ?_) ?_ ?_
            rotate_left
            · (intro wx hSx; go_simp; all_goals with_reducible rfl)
            simp only [Act.put, Rg.e1, Rg.e2, Rg.e3, Rg.e4, Rg.e5, Rg.e6]
            refine Rg.tk 5 (v := ?_) ?_ ?_
            rotate_left
            · intro wx hSx
              cases Rw3.row hSx.1; cases Rw4.row hSx.2.1; obtain ⟨_, e0, e1, e2, e3⟩ := hSx.2.2; go_simp
              all_goals with_reducible rfl
            simp only [Act.put, Rg.e1, Rg.e2, Rg.e3, Rg.e4, Rg.e5, Rg.e6]
            refine wpAnyH_ready (rs := [6]) (by kernel_rfl) (by simp) ?_
            refine .cons (o := _) rfl (fun K hK => ?_) ?_
            · go_simp
              refine (before_any (x := ⟨v, a, p, now⟩) (y := ⟨yv, ya, yp, ys⟩) HBE.out _).mono ?_
              rintro e wr1 ⟨rfl, hbc⟩
              go_wp2_with fail
              refine Rg.st_call hK hHeld KS.out HBR.out hbc ?_
              clear hK K
              intro hHeld hbr
              have HBR := Lib.hid hbr
              clear hbr hbc
              try simp only [Rg.e1, Rg.e2, Rg.e3]
              refine wpAnyH_done (by kernel_rfl) ?_ _
              have HO1 := Lib.hid (own_below HO.out HBR.out)
              have HBw1 := Lib.hid (HBw.out.trans (HBR.out.mono hbs))
              have hbs1 : base ≤ wr1.heap.size := Nat.le_trans hbs HBR.out.size
              have hh := hHeld
              clear hHeld KS
              cases Rw3.row hh.1
              obtain ⟨_, e0, e1, e2, e3⟩ := hh.2.2
              clear hh
              go_wp2_with (at_builtin; refine wpList_append_own _ rfl (.tmp 99) (.tmp 105) 32 rfl base 66 i0 (.agg #[.int .u16 0, .int .u64 0, .int .i64 0, .int .i64 0]) 4 32 Try.underlying32 hi hz0 hz1 hz2 rfl (by decide) _ _ _ rfl (HO1.out.alloc _) ⟨wr1.heap.size, 0, none⟩ 1 1 (e4 ⟨yv, ya, yp, ys⟩) rfl rfl (cells_new _ _ _ _ _ rfl rfl) (e4_one _) (by unfold maxLen; omega) (by omega) (by simp; omega) ?_; intro v' w5 hown' hgrow _)
              obtain ⟨R', c', rfl⟩ := own_slice hown'
              have hlo := (HO1.out.alloc (.cells (e4 ⟨yv, ya, yp, ys⟩).toArray 66)).lt
              have HB5 := Lib.hid ((HBw1.out.alloc hbs1 (.cells (e4 ⟨yv, ya, yp, ys⟩).toArray 66)).grown hgrow (by simp; omega) (fun k hk => (hlo k hk).1))
              have HO5 := Lib.hid hown'
              have L5 : base ≤ w5.heap.size := Nat.le_trans (by simp; omega) hgrow.size
              clear hown' hgrow hlo
              go_roundw
              case rel =>
                refine ⟨k + 1, R', c', by omega, by go_num, ?_, ?_, L5, HB5.out⟩
                · rw [HGK.out, List.length_append]; rfl
                · rw [HGK.out, List.length_append, rowCs_app, rowCs_one]; exact HO5.out
              case measure => simp [intOf]; omega
            exact AllReadyH.nil
          | false =>
            rw [hbe, if_neg (by simp), List.append_nil] at HGK
            have HBE := Lib.hid hbe
            clear hbe
            cases Rw3.row HTw.out
            go_upto_region 19 with (fail)

            refine wp_region_held_drew (S := fun wx => Blk wx w.heap.size 34 (rtC room age (some ad) n c) ∧ Blk wx z 66 #[.int .u16 (v : Int), .int .u64 (a : Int), .int .i64 p, .int .i64 now] ∧ At4 wx (ad.add (k * 4)) (yv : Int) (ya : Int) yp ys) (by kernel_rfl) ⟨HTw.out.drew, HXw.out.drew, HQ.out⟩ (fun hHeld => ?_)
            have HBR := Lib.hid ((Below.refl wr.heap.size wr).drew)
            have KS := Lib.hid (((Rg.Keeps.one w.heap.size 34 (rtC room age (some ad) n c)).and ((Rg.Keeps.one z 66 #[.int .u16 (v : Int), .int .u64 (a : Int), .int .i64 p, .int .i64 now]).and (At4.keep (ad.add (k * 4)) (yv : Int) (ya : Int) yp ys))))
            generalize wr.drew = wd at hHeld HBR ⊢
            refine Rg.tk 0 (v := ?_) ?_ ?_
            rotate_left
            · intro wx hSx
              cases Rw3.row hSx.1; cases Rw4.row hSx.2.1; obtain ⟨_, e0, e1, e2, e3⟩ := hSx.2.2; go_simp
              all_goals with_reducible rfl
            simp only [Act.put, Rg.e1, Rg.e2, Rg.e3, Rg.e4, Rg.e5, Rg.e6]
            refine Rg.tk 1 (v := ?_) ?_ ?_
            rotate_left
            · (intro wx hSx; go_simp; all_goals with_reducible rfl)
            simp only [Act.put, Rg.e1, Rg.e2, Rg.e3, Rg.e4, Rg.e5, Rg.e6]
            refine Rg.tk 2 (v := ?_) ?_ ?_
            rotate_left
            · intro wx hSx
              cases Rw3.row hSx.1; cases Rw4.row hSx.2.1; obtain ⟨_, e0, e1, e2, e3⟩ := hSx.2.2; go_simp
              all_goals with_reducible rfl
            simp only [Act.put, Rg.e1, Rg.e2, Rg.e3, Rg.e4, Rg.e5, Rg.e6]
            refine Rg.tk 3 (v := ?_) ?_ ?_
            rotate_left
            · (intro wx hSx; go_simp; all_goals with_reducible rfl)
            simp only [Act.put, Rg.e1, Rg.e2, Rg.e3, Rg.e4, Rg.e5, Rg.e6]
            refine Rg.tk 4 (v := ?_) ?_ ?_
            rotate_left
            · (intro wx hSx; go_simp; all_goals with_reducible rfl)
            simp only [Act.put, Rg.e1, Rg.e2, Rg.e3, Rg.e4, Rg.e5, Rg.e6]
            refine Rg.tk 5 (v := ?_) ?_ ?_
            rotate_left
            · intro wx hSx
              cases Rw3.row hSx.1; cases Rw4.row hSx.2.1; obtain ⟨_, e0, e1, e2, e3⟩ := hSx.2.2; go_simp
              all_goals with_reducible rfl
            simp only [Act.put, Rg.e1, Rg.e2, Rg.e3, Rg.e4, Rg.e5, Rg.e6]
            refine wpAnyH_ready (rs := [6]) (by kernel_rfl) (by simp) ?_
            refine .cons (o := _) rfl (fun K hK => ?_) ?_
            · go_simp
              refine (before_any (x := ⟨v, a, p, now⟩) (y := ⟨yv, ya, yp, ys⟩) HBE.out _).mono ?_
              rintro e wr1 ⟨rfl, hbc⟩
              go_wp2_with fail
              refine Rg.st_call hK hHeld KS.out HBR.out hbc ?_
              clear hK K
              intro hHeld hbr
              have HBR := Lib.hid hbr
              clear hbr hbc
              try simp only [Rg.e1, Rg.e2, Rg.e3]
              refine wpAnyH_done (by kernel_rfl) ?_ _
              have HO1 := Lib.hid (own_below HO.out HBR.out)
              have HBw1 := Lib.hid (HBw.out.trans (HBR.out.mono hbs))
              have hbs1 : base ≤ wr1.heap.size := Nat.le_trans hbs HBR.out.size
              have hh := hHeld
              clear hHeld KS
              cases Rw3.row hh.1
              obtain ⟨_, e0, e1, e2, e3⟩ := hh.2.2
              clear hh
              go_wp2
              go_roundw
              case rel => exact ⟨k + 1, R, rc, by omega, by go_num, by rw [HGK.out], by rw [HGK.out]; exact HO1.out, hbs1, HBw1.out⟩
              case measure => simp [intOf]; omega
            exact AllReadyH.nil
        · have hd0 : decide ((k : Int) < (n : Int)) = false := decide_eq_false (by omega)
          have hek : k = n := by omega
          have hsz := HO.out
          rw [hek, HGE.out] at hsz
          rw [hek, HGE.out]
          have HS := Lib.hid hsz
          have HRw := Lib.hid (HR2.out.below HBw.out (by omega))
          have HBe := Lib.hid (HB2.out.trans (HBw.out.mono (by omega)))
          clear hsz hek hgb
          obtain ⟨L, hL⟩ : ∃ L, L = ins l ⟨v, a, p, now⟩ := ⟨_, rfl⟩
          rw [← hL] at HS ⊢
          have HLE := Lib.hid hL
          clear hL
          cases Rw3.row HTw.out
          go_upto_region 22 with (fail)
          have hT2 : Blk _ w.heap.size 34 (rtC room age R L.length rc) := HTw.out.put 2 (.slice R L.length rc)
          have HT6 := Lib.hid hT2
          have HR6 := Lib.hid (HRw.out.far (p := ⟨w.heap.size, 2, none⟩) (by simp) (.slice R L.length rc))
          have HB6 := Lib.hid (HBe.out.setCell (p := ⟨w.heap.size, 2, none⟩) (Nat.le_refl _) (.slice R L.length rc))
          have HS2 := Lib.hid (HS.out.kept ((Only.refl w.heap.size wr).put 2 (.slice R L.length rc)) (.inr (fun e => by have := (HS.out.lt _ e).1; omega)))
          clear hT2
          generalize wr.setCell ⟨w.heap.size, 2, none⟩ (.slice R L.length rc) = w6 at HT6 HR6 HB6 HS2 ⊢
          cases Rw3.row HT6.out
          cases Rw3.row HR6.out
          go_wp2
          (try simp only [Exit.inBlock, Exit.then]); refine bodyPost_ret (results_row2 rfl _ _ (w.heap.size + 1) 34 _ (0, 0) _ rfl (Rw3.blk_set HR6.out _ _ _) Try.underlying34 rfl info_rt) rfl ?_
          have HS3 := HS2.out.kept ((((Only.refl (w.heap.size + 1) w6).put 0 (.int .i64 room)).put 1 (.int .i64 age)).put 2 (.slice R L.length rc)) (.inr (fun e => by have := (HS2.out.lt _ e).1; omega))
          exact ⟨R, rc, by rw [← HLE.out]; rfl, by rw [← HLE.out]; exact Rd.of_own HS3, Rw3.below_set HB6.out (by omega) _ _ _⟩

theorem rlearn_bad {room now p : Int} {v a k : Nat} {A : Option Addr} {c n : Nat} {l : List Fr} {w : World} (age : Int) (hA : Rd w w.heap.size A (rowCs l)) (hn : n = l.length) (hl : n ≤ 1024) (hin : InK v a) (hc : lrnE room l v a p = k) (hk : k ≠ 0) :
    Calls Try.prog 8 #[rtV room age A n c, .int .i64 now, .int .u16 (v : Int), .int .u64 (a : Int), .int .i64 p] w fun e w' => e = .returned (.tuple #[rtV room age A n c, .int .i64 (k : Int)]) ∧ Below w.heap.size w w' := by
  subst hc
  unfold lrnE at hk ⊢
  by_cases z : v = 0
  · rw [if_pos (.inl z)]; exact rlearn_r1 room age now p v a hA hn hin (by simp [z])
  have z' : ((v : Int) == 0) = false := by simp only [beq_eq_false_iff_ne]; omega
  by_cases c2 : 4094 < v
  · rw [if_pos (.inr c2)]; exact rlearn_r2 room age now p v a hA hn hin z' (decide_eq_true (by omega))
  have c2' : decide (4094 < (v : Int)) = false := decide_eq_false (by omega)
  rw [if_neg (by omega)] at hk ⊢
  cases hm : Mc.mayB a
  · rw [if_pos (.inl rfl)]; exact rlearn_f1 room age now p v a hA hn hin z' c2' hm
  cases hg : Mc.groupB a
  rotate_left
  · rw [if_pos (.inr rfl)]; exact rlearn_f2 room age now p v a hA hn hin z' c2' hm hg
  rw [hm, hg, if_neg (by simp)] at hk
  rw [if_neg (by simp)]
  by_cases d1 : p < 0
  · rw [if_pos (.inl d1)]; exact rlearn_p1 room age now p v a hA hn hin z' c2' hm hg (decide_eq_true d1)
  by_cases d2 : 2 < p
  · rw [if_pos (.inr d2)]; exact rlearn_p2 room age now p v a hA hn hin z' c2' hm hg (decide_eq_false d1) (decide_eq_true d2)
  rw [if_neg (by omega)] at hk ⊢
  by_cases hf : findK l v a = none ∧ room ≤ (l.length : Int)
  · rw [if_pos hf]
    have hi := idx_find l v a
    rw [hf.1] at hi
    exact rlearn_u room age now p v a hA hn hin z' c2' hm hg (decide_eq_false d1) (decide_eq_false d2) rfl hl (by have := List.getElem?_eq_none_iff.1 hi; omega) (decide_eq_true (by rw [hn]; exact hf.2))
  · rw [if_neg hf] at hk
    exact absurd rfl hk
theorem rlearn_good {room now p : Int} {v a : Nat} {A : Option Addr} {c n : Nat} {l : List Fr} {w : World} (age : Int) (hA : Rd w w.heap.size A (rowCs l)) (hn : n = l.length) (hl : n ≤ 1024) (hin : InK v a) (hc : lrnE room l v a p = 0) :
    Calls Try.prog 8 #[rtV room age A n c, .int .i64 now, .int .u16 (v : Int), .int .u64 (a : Int), .int .i64 p] w fun e w' => ∃ A' c', e = .returned (.tuple #[rtV room age A' (ins l ⟨v, a, p, now⟩).length c', .int .i64 0]) ∧ Rd w' w'.heap.size A' (rowCs (ins l ⟨v, a, p, now⟩)) ∧ Below w.heap.size w w' := by
  unfold lrnE at hc
  by_cases z : v = 0 ∨ 4094 < v
  · rw [if_pos z] at hc; cases hc
  rw [if_neg z] at hc
  by_cases m : Mc.mayB a = false ∨ Mc.groupB a = true
  · rw [if_pos m] at hc; cases hc
  rw [if_neg m] at hc
  by_cases d : p < 0 ∨ 2 < p
  · rw [if_pos d] at hc; cases hc
  rw [if_neg d] at hc
  by_cases hf : findK l v a = none ∧ room ≤ (l.length : Int)
  · rw [if_pos hf] at hc; cases hc
  have hi := idx_find l v a
  refine rlearn_ok room age now p v a hA hn hin (by simp only [beq_eq_false_iff_ne]; omega) (decide_eq_false (by omega)) (by simpa using fun h => m (.inl h)) (by simpa using fun h => m (.inr h)) (decide_eq_false (by omega)) (decide_eq_false (by omega)) rfl hl ?_
  by_cases hr : room ≤ (n : Int)
  · left
    cases ho : findK l v a with
    | none => exact absurd ⟨ho, by rw [← hn]; exact hr⟩ hf
    | some x =>
      rw [ho] at hi
      have := (List.getElem?_eq_some_iff.1 hi).1
      omega
  · right
    exact decide_eq_false hr
end Go.Proofs.Ytljkodfdiebfiaa.Fd
