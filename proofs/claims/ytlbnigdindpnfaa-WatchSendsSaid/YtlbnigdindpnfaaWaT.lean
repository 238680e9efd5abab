/-
  Watch: a tick, the program's and the document's.
-/
import Derived.Test.YtlbnigdindpnfaaRow10
namespace Go.Proofs.Ytlbnigdindpnfaa.Wa
open Go.RowKit Go.Proofs.Ytlbnigdindpnfaa.Bt Go.Proofs.Ytlbnigdindpnfaa.Mm Go.Proofs.Ytlbnigdindpnfaa.Fl Go.Proofs.Ytlbnigdindpnfaa.Tg

abbrev wtC (lv e p : Nat) (g : ByteArray) (iv hd nx : Int) (sn : Nat) (lo fa : Bool) : Array Value := #[.int .u8 (lv : Int), .int .u16 (e : Int), .int .u8 (p : Int), .string g, .int .i64 iv, .int .i64 hd, .int .i64 nx, .int .u64 (sn : Int), .bool lo, .bool fa]
abbrev wtV (lv e p : Nat) (g : ByteArray) (iv hd nx : Int) (sn : Nat) (lo fa : Bool) : Value := .agg (wtC lv e p g iv hd nx sn lo fa)
abbrev zeroWC : Array Value := wtC 0 0 0 ⟨#[]⟩ 0 0 0 0 false false
theorem info_w : (Try.prog.info? 25).map (·.size) = some 10 := by kernel_rfl
theorem info_rw : (Try.prog.info? 31).map (·.size) = some 10 := by kernel_rfl
theorem below_two (w : World) (a b : Obj) : Below w.heap.size w ((w.alloc a).alloc b) := ((Below.refl w.heap.size w).alloc (Nat.le_refl _) a).alloc (by simp) b
theorem blk_two (w : World) (t s : TypeId) (x y : Array Value) : Blk ((w.alloc (.cells x t)).alloc (.cells y s)) w.heap.size t x := (Blk.fresh w t x).alloc _

set_option maxRecDepth 100000 in
set_option maxHeartbeats 2000000 in
theorem tick_sl (lv e p : Nat) (g : ByteArray) (iv hd nx now D X Y : Int) (sn : Nat) (lo fa : Bool) (m : Int) (n1 : Nat) (b : ByteArray) (r : Nat) (w : World)
    (hm : ∀ w1, Calls Try.prog 16 #[wtV lv e p g iv hd nx sn lo fa] w1 fun x w2 => x = .returned (.tuple #[.string b, .int .i64 (r : Int)]) ∧ Below w1.heap.size w1 w2)
    (q1 : decide (nx ≤ now) = true) (q2 : decide (Y < X) = true) (v2 : IntKind.i64.wrap (now - hd) = D) (v3 : IntKind.i64.wrap (2 * D) = X) (v4 : IntKind.i64.wrap (7 * iv) = Y) (v1 : IntKind.i64.wrap (now + iv) = m) (v5 : IntKind.u64.wrap ((sn : Int) + 1) = (n1 : Int)) :
    Calls Try.prog 11 #[wtV lv e p g iv hd nx sn lo fa, .int .i64 now] w fun x w' => x = .returned (.tuple #[wtV lv e p g iv hd m n1 true fa, .string b]) ∧ Below w.heap.size w w' := by
  have HM := Lib.hid hm
  clear hm
  go_enter Try.func11, Try.ntmps11
  go_upto_region 1 with (fail)
  have HA := Lib.hid (blk_two w 25 25 (wtC lv e p g iv hd nx sn lo fa) zeroWC)
  have HR := Lib.hid (fresh_second w (.cells (wtC lv e p g iv hd nx sn lo fa) 25) 25 zeroWC)
  have HB := Lib.hid (below_two w (.cells (wtC lv e p g iv hd nx sn lo fa) 25) (.cells zeroWC 25))
  generalize (w.alloc (.cells (wtC lv e p g iv hd nx sn lo fa) 25)).alloc (.cells zeroWC 25) = w0 at HA HR HB ⊢
  obtain ⟨c0, c1, c2, c3, c4, c5, c6, c7, c8, c9, z0, z1, z2, z3, z4, z5, z6, z7, z8, z9⟩ := Rw10.row HA.out
  go_wp2_with fail
  refine (HM.out _).mono ?_
  rintro x w1 ⟨rfl, hb⟩
  have HA1 := Lib.hid (HA.out.below hb HA.out.lt)
  have HR1 := Lib.hid (HR.out.below hb HR.out.lt)
  have HB1 := Lib.hid (HB.out.trans (hb.mono HB.out.size))
  clear hb c0 c1 c2 c3 c4 c5 c6 c7 c8 c9 z0 z1 z2 z3 z4 z5 z6 z7 z8 z9
  obtain ⟨c0, c1, c2, c3, c4, c5, c6, c7, c8, c9, z0, z1, z2, z3, z4, z5, z6, z7, z8, z9⟩ := Rw10.row HA1.out
  obtain ⟨_, _, _, _, _, _, _, _, _, _, y0, y1, y2, y3, y4, y5, y6, y7, y8, y9⟩ := Rw10.row HR1.out
  go_wp2
  (try simp only [Exit.inBlock, Exit.then]); refine bodyPost_ret (results_row2 rfl _ _ (w.heap.size + 1) 25 _ (0, 0) _ rfl (Rw10.blk_set (((HR1.out.far (p := ⟨w.heap.size, 7, none⟩) (by simp) _).far (p := ⟨w.heap.size, 6, none⟩) (by simp) _).far (p := ⟨w.heap.size, 8, none⟩) (by simp) _) _ _ _ _ _ _ _ _ _ _) Try.underlying25 rfl info_w) rfl ?_
  exact ⟨rfl, Rw10.below_set (((HB1.out.setCell (p := ⟨w.heap.size, 7, none⟩) (Nat.le_refl _) _).setCell (p := ⟨w.heap.size, 6, none⟩) (Nat.le_refl _) _).setCell (p := ⟨w.heap.size, 8, none⟩) (Nat.le_refl _) _) (by omega) _ _ _ _ _ _ _ _ _ _⟩
set_option maxRecDepth 100000 in
set_option maxHeartbeats 2000000 in
theorem tick_sn (lv e p : Nat) (g : ByteArray) (iv hd nx now D X Y : Int) (sn : Nat) (lo fa : Bool) (m : Int) (n1 : Nat) (b : ByteArray) (r : Nat) (w : World)
    (hm : ∀ w1, Calls Try.prog 16 #[wtV lv e p g iv hd nx sn lo fa] w1 fun x w2 => x = .returned (.tuple #[.string b, .int .i64 (r : Int)]) ∧ Below w1.heap.size w1 w2)
    (q1 : decide (nx ≤ now) = true) (q2 : decide (Y < X) = false) (v2 : IntKind.i64.wrap (now - hd) = D) (v3 : IntKind.i64.wrap (2 * D) = X) (v4 : IntKind.i64.wrap (7 * iv) = Y) (v1 : IntKind.i64.wrap (now + iv) = m) (v5 : IntKind.u64.wrap ((sn : Int) + 1) = (n1 : Int)) :
    Calls Try.prog 11 #[wtV lv e p g iv hd nx sn lo fa, .int .i64 now] w fun x w' => x = .returned (.tuple #[wtV lv e p g iv hd m n1 lo fa, .string b]) ∧ Below w.heap.size w w' := by
  have HM := Lib.hid hm
  clear hm
  go_enter Try.func11, Try.ntmps11
  go_upto_region 1 with (fail)
  have HA := Lib.hid (blk_two w 25 25 (wtC lv e p g iv hd nx sn lo fa) zeroWC)
  have HR := Lib.hid (fresh_second w (.cells (wtC lv e p g iv hd nx sn lo fa) 25) 25 zeroWC)
  have HB := Lib.hid (below_two w (.cells (wtC lv e p g iv hd nx sn lo fa) 25) (.cells zeroWC 25))
  generalize (w.alloc (.cells (wtC lv e p g iv hd nx sn lo fa) 25)).alloc (.cells zeroWC 25) = w0 at HA HR HB ⊢
  obtain ⟨c0, c1, c2, c3, c4, c5, c6, c7, c8, c9, z0, z1, z2, z3, z4, z5, z6, z7, z8, z9⟩ := Rw10.row HA.out
  go_wp2_with fail
  refine (HM.out _).mono ?_
  rintro x w1 ⟨rfl, hb⟩
  have HA1 := Lib.hid (HA.out.below hb HA.out.lt)
  have HR1 := Lib.hid (HR.out.below hb HR.out.lt)
  have HB1 := Lib.hid (HB.out.trans (hb.mono HB.out.size))
  clear hb c0 c1 c2 c3 c4 c5 c6 c7 c8 c9 z0 z1 z2 z3 z4 z5 z6 z7 z8 z9
  obtain ⟨c0, c1, c2, c3, c4, c5, c6, c7, c8, c9, z0, z1, z2, z3, z4, z5, z6, z7, z8, z9⟩ := Rw10.row HA1.out
  obtain ⟨_, _, _, _, _, _, _, _, _, _, y0, y1, y2, y3, y4, y5, y6, y7, y8, y9⟩ := Rw10.row HR1.out
  go_wp2
  (try simp only [Exit.inBlock, Exit.then]); refine bodyPost_ret (results_row2 rfl _ _ (w.heap.size + 1) 25 _ (0, 0) _ rfl (Rw10.blk_set ((HR1.out.far (p := ⟨w.heap.size, 7, none⟩) (by simp) _).far (p := ⟨w.heap.size, 6, none⟩) (by simp) _) _ _ _ _ _ _ _ _ _ _) Try.underlying25 rfl info_w) rfl ?_
  exact ⟨rfl, Rw10.below_set ((HB1.out.setCell (p := ⟨w.heap.size, 7, none⟩) (Nat.le_refl _) _).setCell (p := ⟨w.heap.size, 6, none⟩) (Nat.le_refl _) _) (by omega) _ _ _ _ _ _ _ _ _ _⟩
set_option maxRecDepth 100000 in
set_option maxHeartbeats 2000000 in
theorem tick_nl (lv e p : Nat) (g : ByteArray) (iv hd nx now D X Y : Int) (sn : Nat) (lo fa : Bool) (w : World)
    (q1 : decide (nx ≤ now) = false) (q2 : decide (Y < X) = true) (v2 : IntKind.i64.wrap (now - hd) = D) (v3 : IntKind.i64.wrap (2 * D) = X) (v4 : IntKind.i64.wrap (7 * iv) = Y) :
    Calls Try.prog 11 #[wtV lv e p g iv hd nx sn lo fa, .int .i64 now] w fun x w' => x = .returned (.tuple #[wtV lv e p g iv hd nx sn true fa, .string ⟨#[]⟩]) ∧ Below w.heap.size w w' := by
  go_enter Try.func11, Try.ntmps11
  go_upto_region 1 with (fail)
  have HA := Lib.hid (blk_two w 25 25 (wtC lv e p g iv hd nx sn lo fa) zeroWC)
  have HR := Lib.hid (fresh_second w (.cells (wtC lv e p g iv hd nx sn lo fa) 25) 25 zeroWC)
  have HB := Lib.hid (below_two w (.cells (wtC lv e p g iv hd nx sn lo fa) 25) (.cells zeroWC 25))
  generalize (w.alloc (.cells (wtC lv e p g iv hd nx sn lo fa) 25)).alloc (.cells zeroWC 25) = w0 at HA HR HB ⊢
  obtain ⟨c0, c1, c2, c3, c4, c5, c6, c7, c8, c9, z0, z1, z2, z3, z4, z5, z6, z7, z8, z9⟩ := Rw10.row HA.out
  obtain ⟨_, _, _, _, _, _, _, _, _, _, y0, y1, y2, y3, y4, y5, y6, y7, y8, y9⟩ := Rw10.row HR.out
  go_wp2
  (try simp only [Exit.inBlock, Exit.then]); refine bodyPost_ret (results_row2 rfl _ _ (w.heap.size + 1) 25 _ (0, 0) _ rfl (Rw10.blk_set (HR.out.far (p := ⟨w.heap.size, 8, none⟩) (by simp) _) _ _ _ _ _ _ _ _ _ _) Try.underlying25 rfl info_w) rfl ?_
  exact ⟨rfl, Rw10.below_set (HB.out.setCell (p := ⟨w.heap.size, 8, none⟩) (Nat.le_refl _) _) (by omega) _ _ _ _ _ _ _ _ _ _⟩
set_option maxRecDepth 100000 in
set_option maxHeartbeats 2000000 in
theorem tick_nn (lv e p : Nat) (g : ByteArray) (iv hd nx now D X Y : Int) (sn : Nat) (lo fa : Bool) (w : World)
    (q1 : decide (nx ≤ now) = false) (q2 : decide (Y < X) = false) (v2 : IntKind.i64.wrap (now - hd) = D) (v3 : IntKind.i64.wrap (2 * D) = X) (v4 : IntKind.i64.wrap (7 * iv) = Y) :
    Calls Try.prog 11 #[wtV lv e p g iv hd nx sn lo fa, .int .i64 now] w fun x w' => x = .returned (.tuple #[wtV lv e p g iv hd nx sn lo fa, .string ⟨#[]⟩]) ∧ Below w.heap.size w w' := by
  go_enter Try.func11, Try.ntmps11
  go_upto_region 1 with (fail)
  have HA := Lib.hid (blk_two w 25 25 (wtC lv e p g iv hd nx sn lo fa) zeroWC)
  have HR := Lib.hid (fresh_second w (.cells (wtC lv e p g iv hd nx sn lo fa) 25) 25 zeroWC)
  have HB := Lib.hid (below_two w (.cells (wtC lv e p g iv hd nx sn lo fa) 25) (.cells zeroWC 25))
  generalize (w.alloc (.cells (wtC lv e p g iv hd nx sn lo fa) 25)).alloc (.cells zeroWC 25) = w0 at HA HR HB ⊢
  obtain ⟨c0, c1, c2, c3, c4, c5, c6, c7, c8, c9, z0, z1, z2, z3, z4, z5, z6, z7, z8, z9⟩ := Rw10.row HA.out
  obtain ⟨_, _, _, _, _, _, _, _, _, _, y0, y1, y2, y3, y4, y5, y6, y7, y8, y9⟩ := Rw10.row HR.out
  go_wp2
  (try simp only [Exit.inBlock, Exit.then]); refine bodyPost_ret (results_row2 rfl _ _ (w.heap.size + 1) 25 _ (0, 0) _ rfl (Rw10.blk_set HR.out _ _ _ _ _ _ _ _ _ _) Try.underlying25 rfl info_w) rfl ?_
  exact ⟨rfl, Rw10.below_set HB.out (by omega) _ _ _ _ _ _ _ _ _ _⟩
theorem tick_any {nx' : Int} {sn' : Nat} {lo' : Bool} {b' : ByteArray} (lv e p : Nat) (g : ByteArray) (iv hd nx now : Int) (sn : Nat) (lo fa : Bool) (b : ByteArray) (r : Nat) (w : World)
    (hm : ∀ w1, Calls Try.prog 16 #[wtV lv e p g iv hd nx sn lo fa] w1 fun x w2 => x = .returned (.tuple #[.string b, .int .i64 (r : Int)]) ∧ Below w1.heap.size w1 w2)
    (hn : 0 ≤ now ∧ now ≤ 2199023255552) (hh : 0 ≤ hd ∧ hd ≤ 2199023255552) (hi : 0 ≤ iv ∧ iv ≤ 1048576) (hs : sn + 1 < 18446744073709551616)
    (h : if nx ≤ now then nx' = now + iv ∧ sn' = sn + 1 ∧ b' = b else nx' = nx ∧ sn' = sn ∧ b' = ⟨#[]⟩) (hl : lo' = (lo || decide (7 * iv < 2 * (now - hd)))) :
    Calls Try.prog 11 #[wtV lv e p g iv hd nx sn lo fa, .int .i64 now] w fun x w' => x = .returned (.tuple #[wtV lv e p g iv hd nx' sn' lo' fa, .string b']) ∧ Below w.heap.size w w' := by
  have v2 : IntKind.i64.wrap (now - hd) = now - hd := by rw [IntKind.wrap_i64]; omega
  have v3 : IntKind.i64.wrap (2 * (now - hd)) = (2 * (now - hd)) := by rw [IntKind.wrap_i64]; omega
  have v4 : IntKind.i64.wrap (7 * iv) = (7 * iv) := by rw [IntKind.wrap_i64]; omega
  have v1 : IntKind.i64.wrap (now + iv) = now + iv := by rw [IntKind.wrap_i64]; omega
  have v5 : IntKind.u64.wrap ((sn : Int) + 1) = ((sn + 1 : Nat) : Int) := by rw [IntKind.wrap_u64]; omega
  by_cases h1 : nx ≤ now
  · rw [if_pos h1] at h
    obtain ⟨rfl, rfl, rfl⟩ := h
    by_cases h2 : 7 * iv < 2 * (now - hd)
    · rw [decide_eq_true h2, Bool.or_true] at hl
      subst hl
      exact tick_sl lv e p g iv hd nx now _ _ _ sn lo fa _ _ _ r w hm (decide_eq_true h1) (decide_eq_true (by omega)) v2 v3 v4 v1 v5
    · rw [decide_eq_false h2, Bool.or_false] at hl
      subst hl
      exact tick_sn lv e p g iv hd nx now _ _ _ sn _ fa _ _ _ r w hm (decide_eq_true h1) (decide_eq_false (by omega)) v2 v3 v4 v1 v5
  · rw [if_neg h1] at h
    obtain ⟨rfl, rfl, rfl⟩ := h
    by_cases h2 : 7 * iv < 2 * (now - hd)
    · rw [decide_eq_true h2, Bool.or_true] at hl
      subst hl
      exact tick_nl lv e p g iv hd _ now _ _ _ _ lo fa w (decide_eq_false h1) (decide_eq_true (by omega)) v2 v3 v4
    · rw [decide_eq_false h2, Bool.or_false] at hl
      subst hl
      exact tick_nn lv e p g iv hd _ now _ _ _ _ _ fa w (decide_eq_false h1) (decide_eq_false (by omega)) v2 v3 v4
set_option maxRecDepth 100000 in
set_option maxHeartbeats 2000000 in
theorem rtick_sl (lv e p : Nat) (g : ByteArray) (iv hd nx now D X Y : Int) (sn : Nat) (lo fa : Bool) (m : Int) (n1 : Nat) (b : ByteArray) (r : Nat) (w : World)
    (hm : ∀ w1, Calls Try.prog 19 #[wtV lv e p g iv hd nx sn lo fa] w1 fun x w2 => x = .returned (.tuple #[.string b, .int .i64 (r : Int)]) ∧ Below w1.heap.size w1 w2)
    (q1 : decide (nx ≤ now) = true) (q2 : decide (Y < X) = true) (v2 : IntKind.i64.wrap (now - hd) = D) (v3 : IntKind.i64.wrap ((D : Int) * 2) = X) (v4 : IntKind.i64.wrap (iv * 7) = Y) (v1 : IntKind.i64.wrap (now + iv) = m) (v5 : IntKind.u64.wrap ((sn : Int) + 1) = (n1 : Int)) :
    Calls Try.prog 12 #[wtV lv e p g iv hd nx sn lo fa, .int .i64 now] w fun x w' => x = .returned (.tuple #[wtV lv e p g iv hd m n1 true fa, .string b]) ∧ Below w.heap.size w w' := by
  have HM := Lib.hid hm
  clear hm
  go_enter Try.func12, Try.ntmps12
  go_upto_region 1 with (fail)
  have HA := Lib.hid (blk_two w 31 31 (wtC lv e p g iv hd nx sn lo fa) zeroWC)
  have HR := Lib.hid (fresh_second w (.cells (wtC lv e p g iv hd nx sn lo fa) 31) 31 zeroWC)
  have HB := Lib.hid (below_two w (.cells (wtC lv e p g iv hd nx sn lo fa) 31) (.cells zeroWC 31))
  generalize (w.alloc (.cells (wtC lv e p g iv hd nx sn lo fa) 31)).alloc (.cells zeroWC 31) = w0 at HA HR HB ⊢
  obtain ⟨c0, c1, c2, c3, c4, c5, c6, c7, c8, c9, z0, z1, z2, z3, z4, z5, z6, z7, z8, z9⟩ := Rw10.row HA.out
  go_wp2_with fail
  refine (HM.out _).mono ?_
  rintro x w1 ⟨rfl, hb⟩
  have HA1 := Lib.hid (HA.out.below hb HA.out.lt)
  have HR1 := Lib.hid (HR.out.below hb HR.out.lt)
  have HB1 := Lib.hid (HB.out.trans (hb.mono HB.out.size))
  clear hb c0 c1 c2 c3 c4 c5 c6 c7 c8 c9 z0 z1 z2 z3 z4 z5 z6 z7 z8 z9
  obtain ⟨c0, c1, c2, c3, c4, c5, c6, c7, c8, c9, z0, z1, z2, z3, z4, z5, z6, z7, z8, z9⟩ := Rw10.row HA1.out
  obtain ⟨_, _, _, _, _, _, _, _, _, _, y0, y1, y2, y3, y4, y5, y6, y7, y8, y9⟩ := Rw10.row HR1.out
  go_wp2
  (try simp only [Exit.inBlock, Exit.then]); refine bodyPost_ret (results_row2 rfl _ _ (w.heap.size + 1) 31 _ (0, 0) _ rfl (Rw10.blk_set (((HR1.out.far (p := ⟨w.heap.size, 7, none⟩) (by simp) _).far (p := ⟨w.heap.size, 6, none⟩) (by simp) _).far (p := ⟨w.heap.size, 8, none⟩) (by simp) _) _ _ _ _ _ _ _ _ _ _) Try.underlying31 rfl info_rw) rfl ?_
  exact ⟨rfl, Rw10.below_set (((HB1.out.setCell (p := ⟨w.heap.size, 7, none⟩) (Nat.le_refl _) _).setCell (p := ⟨w.heap.size, 6, none⟩) (Nat.le_refl _) _).setCell (p := ⟨w.heap.size, 8, none⟩) (Nat.le_refl _) _) (by omega) _ _ _ _ _ _ _ _ _ _⟩
set_option maxRecDepth 100000 in
set_option maxHeartbeats 2000000 in
theorem rtick_sn (lv e p : Nat) (g : ByteArray) (iv hd nx now D X Y : Int) (sn : Nat) (lo fa : Bool) (m : Int) (n1 : Nat) (b : ByteArray) (r : Nat) (w : World)
    (hm : ∀ w1, Calls Try.prog 19 #[wtV lv e p g iv hd nx sn lo fa] w1 fun x w2 => x = .returned (.tuple #[.string b, .int .i64 (r : Int)]) ∧ Below w1.heap.size w1 w2)
    (q1 : decide (nx ≤ now) = true) (q2 : decide (Y < X) = false) (v2 : IntKind.i64.wrap (now - hd) = D) (v3 : IntKind.i64.wrap ((D : Int) * 2) = X) (v4 : IntKind.i64.wrap (iv * 7) = Y) (v1 : IntKind.i64.wrap (now + iv) = m) (v5 : IntKind.u64.wrap ((sn : Int) + 1) = (n1 : Int)) :
    Calls Try.prog 12 #[wtV lv e p g iv hd nx sn lo fa, .int .i64 now] w fun x w' => x = .returned (.tuple #[wtV lv e p g iv hd m n1 lo fa, .string b]) ∧ Below w.heap.size w w' := by
  have HM := Lib.hid hm
  clear hm
  go_enter Try.func12, Try.ntmps12
  go_upto_region 1 with (fail)
  have HA := Lib.hid (blk_two w 31 31 (wtC lv e p g iv hd nx sn lo fa) zeroWC)
  have HR := Lib.hid (fresh_second w (.cells (wtC lv e p g iv hd nx sn lo fa) 31) 31 zeroWC)
  have HB := Lib.hid (below_two w (.cells (wtC lv e p g iv hd nx sn lo fa) 31) (.cells zeroWC 31))
  generalize (w.alloc (.cells (wtC lv e p g iv hd nx sn lo fa) 31)).alloc (.cells zeroWC 31) = w0 at HA HR HB ⊢
  obtain ⟨c0, c1, c2, c3, c4, c5, c6, c7, c8, c9, z0, z1, z2, z3, z4, z5, z6, z7, z8, z9⟩ := Rw10.row HA.out
  go_wp2_with fail
  refine (HM.out _).mono ?_
  rintro x w1 ⟨rfl, hb⟩
  have HA1 := Lib.hid (HA.out.below hb HA.out.lt)
  have HR1 := Lib.hid (HR.out.below hb HR.out.lt)
  have HB1 := Lib.hid (HB.out.trans (hb.mono HB.out.size))
  clear hb c0 c1 c2 c3 c4 c5 c6 c7 c8 c9 z0 z1 z2 z3 z4 z5 z6 z7 z8 z9
  obtain ⟨c0, c1, c2, c3, c4, c5, c6, c7, c8, c9, z0, z1, z2, z3, z4, z5, z6, z7, z8, z9⟩ := Rw10.row HA1.out
  obtain ⟨_, _, _, _, _, _, _, _, _, _, y0, y1, y2, y3, y4, y5, y6, y7, y8, y9⟩ := Rw10.row HR1.out
  go_wp2
  (try simp only [Exit.inBlock, Exit.then]); refine bodyPost_ret (results_row2 rfl _ _ (w.heap.size + 1) 31 _ (0, 0) _ rfl (Rw10.blk_set ((HR1.out.far (p := ⟨w.heap.size, 7, none⟩) (by simp) _).far (p := ⟨w.heap.size, 6, none⟩) (by simp) _) _ _ _ _ _ _ _ _ _ _) Try.underlying31 rfl info_rw) rfl ?_
  exact ⟨rfl, Rw10.below_set ((HB1.out.setCell (p := ⟨w.heap.size, 7, none⟩) (Nat.le_refl _) _).setCell (p := ⟨w.heap.size, 6, none⟩) (Nat.le_refl _) _) (by omega) _ _ _ _ _ _ _ _ _ _⟩
set_option maxRecDepth 100000 in
set_option maxHeartbeats 2000000 in
theorem rtick_nl (lv e p : Nat) (g : ByteArray) (iv hd nx now D X Y : Int) (sn : Nat) (lo fa : Bool) (w : World)
    (q1 : decide (nx ≤ now) = false) (q2 : decide (Y < X) = true) (v2 : IntKind.i64.wrap (now - hd) = D) (v3 : IntKind.i64.wrap ((D : Int) * 2) = X) (v4 : IntKind.i64.wrap (iv * 7) = Y) :
    Calls Try.prog 12 #[wtV lv e p g iv hd nx sn lo fa, .int .i64 now] w fun x w' => x = .returned (.tuple #[wtV lv e p g iv hd nx sn true fa, .string ⟨#[]⟩]) ∧ Below w.heap.size w w' := by
  go_enter Try.func12, Try.ntmps12
  go_upto_region 1 with (fail)
  have HA := Lib.hid (blk_two w 31 31 (wtC lv e p g iv hd nx sn lo fa) zeroWC)
  have HR := Lib.hid (fresh_second w (.cells (wtC lv e p g iv hd nx sn lo fa) 31) 31 zeroWC)
  have HB := Lib.hid (below_two w (.cells (wtC lv e p g iv hd nx sn lo fa) 31) (.cells zeroWC 31))
  generalize (w.alloc (.cells (wtC lv e p g iv hd nx sn lo fa) 31)).alloc (.cells zeroWC 31) = w0 at HA HR HB ⊢
  obtain ⟨c0, c1, c2, c3, c4, c5, c6, c7, c8, c9, z0, z1, z2, z3, z4, z5, z6, z7, z8, z9⟩ := Rw10.row HA.out
  obtain ⟨_, _, _, _, _, _, _, _, _, _, y0, y1, y2, y3, y4, y5, y6, y7, y8, y9⟩ := Rw10.row HR.out
  go_wp2
  (try simp only [Exit.inBlock, Exit.then]); refine bodyPost_ret (results_row2 rfl _ _ (w.heap.size + 1) 31 _ (0, 0) _ rfl (Rw10.blk_set (HR.out.far (p := ⟨w.heap.size, 8, none⟩) (by simp) _) _ _ _ _ _ _ _ _ _ _) Try.underlying31 rfl info_rw) rfl ?_
  exact ⟨rfl, Rw10.below_set (HB.out.setCell (p := ⟨w.heap.size, 8, none⟩) (Nat.le_refl _) _) (by omega) _ _ _ _ _ _ _ _ _ _⟩
set_option maxRecDepth 100000 in
set_option maxHeartbeats 2000000 in
theorem rtick_nn (lv e p : Nat) (g : ByteArray) (iv hd nx now D X Y : Int) (sn : Nat) (lo fa : Bool) (w : World)
    (q1 : decide (nx ≤ now) = false) (q2 : decide (Y < X) = false) (v2 : IntKind.i64.wrap (now - hd) = D) (v3 : IntKind.i64.wrap ((D : Int) * 2) = X) (v4 : IntKind.i64.wrap (iv * 7) = Y) :
    Calls Try.prog 12 #[wtV lv e p g iv hd nx sn lo fa, .int .i64 now] w fun x w' => x = .returned (.tuple #[wtV lv e p g iv hd nx sn lo fa, .string ⟨#[]⟩]) ∧ Below w.heap.size w w' := by
  go_enter Try.func12, Try.ntmps12
  go_upto_region 1 with (fail)
  have HA := Lib.hid (blk_two w 31 31 (wtC lv e p g iv hd nx sn lo fa) zeroWC)
  have HR := Lib.hid (fresh_second w (.cells (wtC lv e p g iv hd nx sn lo fa) 31) 31 zeroWC)
  have HB := Lib.hid (below_two w (.cells (wtC lv e p g iv hd nx sn lo fa) 31) (.cells zeroWC 31))
  generalize (w.alloc (.cells (wtC lv e p g iv hd nx sn lo fa) 31)).alloc (.cells zeroWC 31) = w0 at HA HR HB ⊢
  obtain ⟨c0, c1, c2, c3, c4, c5, c6, c7, c8, c9, z0, z1, z2, z3, z4, z5, z6, z7, z8, z9⟩ := Rw10.row HA.out
  obtain ⟨_, _, _, _, _, _, _, _, _, _, y0, y1, y2, y3, y4, y5, y6, y7, y8, y9⟩ := Rw10.row HR.out
  go_wp2
  (try simp only [Exit.inBlock, Exit.then]); refine bodyPost_ret (results_row2 rfl _ _ (w.heap.size + 1) 31 _ (0, 0) _ rfl (Rw10.blk_set HR.out _ _ _ _ _ _ _ _ _ _) Try.underlying31 rfl info_rw) rfl ?_
  exact ⟨rfl, Rw10.below_set HB.out (by omega) _ _ _ _ _ _ _ _ _ _⟩
theorem rtick_any {nx' : Int} {sn' : Nat} {lo' : Bool} {b' : ByteArray} (lv e p : Nat) (g : ByteArray) (iv hd nx now : Int) (sn : Nat) (lo fa : Bool) (b : ByteArray) (r : Nat) (w : World)
    (hm : ∀ w1, Calls Try.prog 19 #[wtV lv e p g iv hd nx sn lo fa] w1 fun x w2 => x = .returned (.tuple #[.string b, .int .i64 (r : Int)]) ∧ Below w1.heap.size w1 w2)
    (hn : 0 ≤ now ∧ now ≤ 2199023255552) (hh : 0 ≤ hd ∧ hd ≤ 2199023255552) (hi : 0 ≤ iv ∧ iv ≤ 1048576) (hs : sn + 1 < 18446744073709551616)
    (h : if nx ≤ now then nx' = now + iv ∧ sn' = sn + 1 ∧ b' = b else nx' = nx ∧ sn' = sn ∧ b' = ⟨#[]⟩) (hl : lo' = (lo || decide (7 * iv < 2 * (now - hd)))) :
    Calls Try.prog 12 #[wtV lv e p g iv hd nx sn lo fa, .int .i64 now] w fun x w' => x = .returned (.tuple #[wtV lv e p g iv hd nx' sn' lo' fa, .string b']) ∧ Below w.heap.size w w' := by
  have v2 : IntKind.i64.wrap (now - hd) = now - hd := by rw [IntKind.wrap_i64]; omega
  have v3 : IntKind.i64.wrap ((now - hd) * 2) = ((now - hd) * 2) := by rw [IntKind.wrap_i64]; omega
  have v4 : IntKind.i64.wrap (iv * 7) = (iv * 7) := by rw [IntKind.wrap_i64]; omega
  have v1 : IntKind.i64.wrap (now + iv) = now + iv := by rw [IntKind.wrap_i64]; omega
  have v5 : IntKind.u64.wrap ((sn : Int) + 1) = ((sn + 1 : Nat) : Int) := by rw [IntKind.wrap_u64]; omega
  by_cases h1 : nx ≤ now
  · rw [if_pos h1] at h
    obtain ⟨rfl, rfl, rfl⟩ := h
    by_cases h2 : 7 * iv < 2 * (now - hd)
    · rw [decide_eq_true h2, Bool.or_true] at hl
      subst hl
      exact rtick_sl lv e p g iv hd nx now _ _ _ sn lo fa _ _ _ r w hm (decide_eq_true h1) (decide_eq_true (by omega)) v2 v3 v4 v1 v5
    · rw [decide_eq_false h2, Bool.or_false] at hl
      subst hl
      exact rtick_sn lv e p g iv hd nx now _ _ _ sn _ fa _ _ _ r w hm (decide_eq_true h1) (decide_eq_false (by omega)) v2 v3 v4 v1 v5
  · rw [if_neg h1] at h
    obtain ⟨rfl, rfl, rfl⟩ := h
    by_cases h2 : 7 * iv < 2 * (now - hd)
    · rw [decide_eq_true h2, Bool.or_true] at hl
      subst hl
      exact rtick_nl lv e p g iv hd _ now _ _ _ _ lo fa w (decide_eq_false h1) (decide_eq_true (by omega)) v2 v3 v4
    · rw [decide_eq_false h2, Bool.or_false] at hl
      subst hl
      exact rtick_nn lv e p g iv hd _ now _ _ _ _ _ fa w (decide_eq_false h1) (decide_eq_false (by omega)) v2 v3 v4
end Go.Proofs.Ytlbnigdindpnfaa.Wa
