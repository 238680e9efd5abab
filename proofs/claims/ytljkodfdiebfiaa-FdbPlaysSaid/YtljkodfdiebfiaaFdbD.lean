/-
  Tables, the program's: New, with, Learn, Look.
-/
import Derived.Test.YtljkodfdiebfiaaFdbC
import Derived.Test.YtljkodfdiebfiaaShelfP
namespace Go.Proofs.Ytljkodfdiebfiaa.Fd
open Go.RowKit Go.Maps Go.Proofs.Ytljkodfdiebfiaa.Mm Go.Proofs.Ytljkodfdiebfiaa.Tg

theorem info_t : (Try.prog.info? 26).map (·.size) = some 3 := by kernel_rfl
abbrev noT : Array Value := tbC 0 0 none
theorem blk_two (w : World) (t s : TypeId) (x y : Array Value) : Blk ((w.alloc (.cells x t)).alloc (.cells y s)) w.heap.size t x := (Blk.fresh w t x).alloc _
theorem blk_last (w : World) (a b : Obj) (t : TypeId) (x : Array Value) : Blk (((w.alloc a).alloc b).alloc (.cells x t)) (w.heap.size + 2) t x := by
  have := Blk.fresh ((w.alloc a).alloc b) t x
  rwa [show ((w.alloc a).alloc b).heap.size = w.heap.size + 2 by simp] at this
theorem Mp.far {w : World} {b g : Nat} {l : List Fr} (h : Mp w b l) (hne : b ≠ g) (x0 x1 x2 : Value) : Mp (Rw3.set w g x0 x1 x2) b l :=
  World.ownsMap.setCell (World.ownsMap.setCell (World.ownsMap.setCell h (a := ⟨g, 0, none⟩) hne x0) (a := ⟨g, 1, none⟩) hne x1) (a := ⟨g, 2, none⟩) hne x2
theorem clone_any {b : Nat} {l : List Fr} {w : World} (h : Mp w b l) :
    Calls Try.prog 20 #[.map (some b)] w fun e w' => e = .returned (.map (some w.heap.size)) ∧ Mp w' w.heap.size l ∧ Below w.heap.size w w' :=
  (AnyW.maps_Clone_owns Try.cloneT 53 Rs b l.length (toD l) w h).mono fun _ _ ⟨h1, h2, _, h4⟩ => ⟨h1, h2, h4⟩

set_option maxRecDepth 100000 in
set_option maxHeartbeats 1000000 in
theorem with_any (room age : Int) (b b' : Option Nat) (w : World) :
    Calls Try.prog 21 #[tbV room age b, .map b'] w fun e w' => e = .returned (tbV room age b') ∧ Below w.heap.size w w' := by
  go_enter Try.func21, Try.ntmps21
  go_upto_region 1 with (fail)
  have HA := Lib.hid (blk_two w 26 26 (tbC room age b) noT)
  have HR := Lib.hid (fresh_second w (.cells (tbC room age b) 26) 26 noT)
  have HB := Lib.hid (below_two w (.cells (tbC room age b) 26) (.cells noT 26))
  generalize (w.alloc (.cells (tbC room age b) 26)).alloc (.cells noT 26) = w0 at HA HR HB ⊢
  cases Rw3.row HA.out
  cases Rw3.row HR.out
  go_wp2
  (try simp only [Exit.inBlock, Exit.then]); refine bodyPost_ret (results_cell_row rfl _ _ (w.heap.size + 1) 26 _ (0, 0) _ rfl (Rw3.blk_set HR.out _ _ _) Try.underlying26 rfl info_t) rfl ?_
  exact ⟨rfl, Rw3.below_set HB.out (by omega) _ _ _⟩

set_option maxRecDepth 100000 in
set_option maxHeartbeats 1000000 in
theorem new_ok (room age : Int) (w : World) (h : 1 ≤ room ∧ room ≤ 1024) (h' : 1 ≤ age ∧ age ≤ 1048576) :
    Calls Try.prog 5 #[.int .i64 room, .int .i64 age] w fun e w' => ∃ b, e = .returned (.tuple #[tbV room age (some b), .int .i64 0]) ∧ Mp w' b [] ∧ Below w.heap.size w w' := by
  have c1 : decide (room < 1) = false := decide_eq_false (by omega)
  have c2 : decide (1024 < room) = false := decide_eq_false (by omega)
  have c3 : decide (age < 1) = false := decide_eq_false (by omega)
  have c4 : decide (1048576 < age) = false := decide_eq_false (by omega)
  clear h h'
  have hmm := @run_makeMap Try.prog
  go_enter Try.func5, Try.ntmps5
  go_wp2
  (try simp only [Exit.inBlock, Exit.then]); refine bodyPost_ret (results_row2 rfl _ _ w.heap.size 26 _ (0, 0) _ rfl ((Blk.fresh w _ _).alloc _) Try.underlying26 rfl info_t) rfl ?_
  have hm := Mp.new (w.alloc (.cells (tbC room age (some (w.heap.size + 1))) 26))
  rw [show (w.alloc (.cells (tbC room age (some (w.heap.size + 1))) 26)).heap.size = w.heap.size + 1 by simp] at hm
  exact ⟨_, rfl, hm, below_two w _ _⟩

set_option maxRecDepth 100000 in
set_option maxHeartbeats 1000000 in
theorem new_bad_a (room age : Int) (w : World) (c1 : decide (room < 1) = true) :
    Calls Try.prog 5 #[.int .i64 room, .int .i64 age] w fun e w' => e = .returned (.tuple #[tbV 0 0 none, .int .i64 4]) ∧ Below w.heap.size w w' := by
  go_enter Try.func5, Try.ntmps5
  go_wp2
  (try simp only [Exit.inBlock, Exit.then]); refine bodyPost_ret (results_row2 rfl _ _ w.heap.size 26 _ (0, 0) _ rfl (Blk.fresh w _ _) Try.underlying26 rfl info_t) rfl ?_
  exact ⟨rfl, (Below.refl w.heap.size w).alloc (Nat.le_refl _) _⟩

set_option maxRecDepth 100000 in
set_option maxHeartbeats 1000000 in
theorem new_bad_b (room age : Int) (w : World) (c1 : decide (room < 1) = false) (c2 : decide (1024 < room) = true) :
    Calls Try.prog 5 #[.int .i64 room, .int .i64 age] w fun e w' => e = .returned (.tuple #[tbV 0 0 none, .int .i64 4]) ∧ Below w.heap.size w w' := by
  go_enter Try.func5, Try.ntmps5
  go_wp2
  (try simp only [Exit.inBlock, Exit.then]); refine bodyPost_ret (results_row2 rfl _ _ w.heap.size 26 _ (0, 0) _ rfl (Blk.fresh w _ _) Try.underlying26 rfl info_t) rfl ?_
  exact ⟨rfl, (Below.refl w.heap.size w).alloc (Nat.le_refl _) _⟩

set_option maxRecDepth 100000 in
set_option maxHeartbeats 1000000 in
theorem new_bad_c (room age : Int) (w : World) (c1 : decide (room < 1) = false) (c2 : decide (1024 < room) = false) (c3 : decide (age < 1) = true) :
    Calls Try.prog 5 #[.int .i64 room, .int .i64 age] w fun e w' => e = .returned (.tuple #[tbV 0 0 none, .int .i64 4]) ∧ Below w.heap.size w w' := by
  go_enter Try.func5, Try.ntmps5
  go_wp2
  (try simp only [Exit.inBlock, Exit.then]); refine bodyPost_ret (results_row2 rfl _ _ w.heap.size 26 _ (0, 0) _ rfl (Blk.fresh w _ _) Try.underlying26 rfl info_t) rfl ?_
  exact ⟨rfl, (Below.refl w.heap.size w).alloc (Nat.le_refl _) _⟩

set_option maxRecDepth 100000 in
set_option maxHeartbeats 1000000 in
theorem new_bad_d (room age : Int) (w : World) (c1 : decide (room < 1) = false) (c2 : decide (1024 < room) = false) (c3 : decide (age < 1) = false) (c4 : decide (1048576 < age) = true) :
    Calls Try.prog 5 #[.int .i64 room, .int .i64 age] w fun e w' => e = .returned (.tuple #[tbV 0 0 none, .int .i64 4]) ∧ Below w.heap.size w w' := by
  go_enter Try.func5, Try.ntmps5
  go_wp2
  (try simp only [Exit.inBlock, Exit.then]); refine bodyPost_ret (results_row2 rfl _ _ w.heap.size 26 _ (0, 0) _ rfl (Blk.fresh w _ _) Try.underlying26 rfl info_t) rfl ?_
  exact ⟨rfl, (Below.refl w.heap.size w).alloc (Nat.le_refl _) _⟩

theorem new_bad (room age : Int) (w : World) (h : room < 1 ∨ 1024 < room ∨ age < 1 ∨ 1048576 < age) :
    Calls Try.prog 5 #[.int .i64 room, .int .i64 age] w fun e w' => e = .returned (.tuple #[tbV 0 0 none, .int .i64 4]) ∧ Below w.heap.size w w' := by
  by_cases c1 : room < 1
  · exact new_bad_a room age w (decide_eq_true c1)
  by_cases c2 : 1024 < room
  · exact new_bad_b room age w (decide_eq_false c1) (decide_eq_true c2)
  by_cases c3 : age < 1
  · exact new_bad_c room age w (decide_eq_false c1) (decide_eq_false c2) (decide_eq_true c3)
  · exact new_bad_d room age w (decide_eq_false c1) (decide_eq_false c2) (decide_eq_false c3) (decide_eq_true (by omega))

set_option maxRecDepth 100000 in
set_option maxHeartbeats 2000000 in
theorem learn_bad {room age now p : Int} {v a c : Nat} {b : Nat} {l : List Fr} {w : World} (h : Mp w b l) (hk : ∀ x ∈ l, okK x) (hin : InK v a) (hc : lrnE room l v a p = c) (hz : ((c : Int) != 0) = true) :
    Calls Try.prog 7 #[tbV room age (some b), .int .i64 now, .int .u16 (v : Int), .int .u64 (a : Int), .int .i64 p] w fun e w' => e = .returned (.tuple #[tbV room age (some b), .int .i64 (c : Int)]) ∧ Below w.heap.size w w' := by
  have HM := Lib.hid h; have HI := Lib.hid hin; have HK0 := Lib.hid hk; have HC := Lib.hid hc
  clear h hin hk hc
  go_enter Try.func7, Try.ntmps7
  go_upto_region 2 with (fail)
  have HA := Lib.hid ((blk_two w 26 26 (tbC room age (some b)) noT).alloc (.cells #[.int .u16 (v : Int), .int .u64 (a : Int)] 53))
  have HR := Lib.hid ((fresh_second w (.cells (tbC room age (some b)) 26) 26 noT).alloc (.cells #[.int .u16 (v : Int), .int .u64 (a : Int)] 53))
  have HK := Lib.hid (blk_last w (.cells (tbC room age (some b)) 26) (.cells noT 26) 53 #[.int .u16 (v : Int), .int .u64 (a : Int)])
  have HB := Lib.hid (below_three w (.cells (tbC room age (some b)) 26) (.cells noT 26) (.cells #[.int .u16 (v : Int), .int .u64 (a : Int)] 53))
  have HM0 := Lib.hid (HM.out.on HB.out)
  generalize ((w.alloc (.cells (tbC room age (some b)) 26)).alloc (.cells noT 26)).alloc (.cells #[.int .u16 (v : Int), .int .u64 (a : Int)] 53) = w0 at HA HR HK HB HM0 ⊢
  cases Rw3.row HA.out
  cases Rw2.row HK.out
  go_wp2_with fail
  refine (wrong_any age HM0.out HK0.out HI.out HC.out).mono ?_
  rintro e w1 ⟨rfl, hb⟩
  have HA1 := Lib.hid (HA.out.below hb HA.out.lt)
  have HR1 := Lib.hid (HR.out.below hb HR.out.lt)
  have HK1 := Lib.hid (HK.out.below hb HK.out.lt)
  have HM1 := Lib.hid (HM0.out.on hb)
  have HB1 := Lib.hid (HB.out.trans (hb.mono HB.out.size))
  clear hb
  cases Rw3.row HA1.out
  cases Rw3.row HR1.out
  cases Rw2.row HK1.out
  go_wp2
  (try simp only [Exit.inBlock, Exit.then]); refine bodyPost_ret (results_row2 rfl _ _ (w.heap.size + 1) 26 _ (0, 0) _ rfl (Rw3.blk_set HR1.out _ _ _) Try.underlying26 rfl info_t) rfl ?_
  exact ⟨rfl, Rw3.below_set HB1.out (by omega) _ _ _⟩

set_option maxRecDepth 100000 in
set_option maxHeartbeats 2000000 in
theorem learn_good {room age now p : Int} {v a : Nat} {b : Nat} {l : List Fr} {w : World} (h : Mp w b l) (hk : ∀ x ∈ l, okK x) (hr : Rising l) (hn : l.length < maxLen) (hin : InK v a) (hc : lrnE room l v a p = 0) :
    Calls Try.prog 7 #[tbV room age (some b), .int .i64 now, .int .u16 (v : Int), .int .u64 (a : Int), .int .i64 p] w fun e w' => ∃ b', e = .returned (.tuple #[tbV room age (some b'), .int .i64 0]) ∧ Mp w' b' (ins l ⟨v, a, p, now⟩) ∧ Below w.heap.size w w' := by
  have hput := toD_put (x := ⟨v, a, p, now⟩) hin hr hk
  have HP := Lib.hid hput
  clear hput hr
  have HN := Lib.hid hn
  clear hn
  have HM := Lib.hid h; have HI := Lib.hid hin; have HK0 := Lib.hid hk; have HC := Lib.hid hc
  clear h hin hk hc
  go_enter Try.func7, Try.ntmps7
  go_upto_region 2 with (fail)
  have HA := Lib.hid ((blk_two w 26 26 (tbC room age (some b)) noT).alloc (.cells #[.int .u16 (v : Int), .int .u64 (a : Int)] 53))
  have HR := Lib.hid ((fresh_second w (.cells (tbC room age (some b)) 26) 26 noT).alloc (.cells #[.int .u16 (v : Int), .int .u64 (a : Int)] 53))
  have HK := Lib.hid (blk_last w (.cells (tbC room age (some b)) 26) (.cells noT 26) 53 #[.int .u16 (v : Int), .int .u64 (a : Int)])
  have HB := Lib.hid (below_three w (.cells (tbC room age (some b)) 26) (.cells noT 26) (.cells #[.int .u16 (v : Int), .int .u64 (a : Int)] 53))
  have HM0 := Lib.hid (HM.out.on HB.out)
  generalize ((w.alloc (.cells (tbC room age (some b)) 26)).alloc (.cells noT 26)).alloc (.cells #[.int .u16 (v : Int), .int .u64 (a : Int)] 53) = w0 at HA HR HK HB HM0 ⊢
  cases Rw3.row HA.out
  cases Rw2.row HK.out
  go_wp2_with fail
  refine (wrong_any age HM0.out HK0.out HI.out HC.out).mono ?_
  rintro e w1 ⟨rfl, hb⟩
  have HA1 := Lib.hid (HA.out.below hb HA.out.lt)
  have HR1 := Lib.hid (HR.out.below hb HR.out.lt)
  have HK1 := Lib.hid (HK.out.below hb HK.out.lt)
  have HM1 := Lib.hid (HM0.out.on hb)
  have HB1 := Lib.hid (HB.out.trans (hb.mono HB.out.size))
  clear hb
  cases Rw3.row HA1.out
  cases Rw3.row HR1.out
  cases Rw2.row HK1.out
  go_wp2_with fail
  refine (clone_any HM1.out).mono ?_
  rintro e w2 ⟨rfl, hm, hb⟩
  have HA2 := Lib.hid (HA1.out.below hb HA1.out.lt)
  have HR2 := Lib.hid (HR1.out.below hb HR1.out.lt)
  have HK2 := Lib.hid (HK1.out.below hb HK1.out.lt)
  have HB2 := Lib.hid (HB1.out.trans (hb.mono HB1.out.size))
  obtain ⟨b', hb'⟩ : ∃ b', b' = w1.heap.size := ⟨_, rfl⟩
  have L1 : w.heap.size + 1 < b' := by rw [hb']; exact HR1.out.lt
  have L2 : w.heap.size + 2 < b' := by rw [hb']; exact HK1.out.lt
  rw [← hb'] at hm ⊢
  have HM2 := Lib.hid hm
  have HS := Lib.hid hb.size
  clear hb hm hb'
  cases Rw3.row HA2.out
  cases Rw3.row HR2.out
  cases Rw2.row HK2.out
  go_upto_region 7 with (at_mapUpdate; refine wpList_mapUpdate_own _ rfl _ _ _ _ rfl 53 55 law Try.underlying24 Rs b' _ _ rfl HM2.out HN.out _ _ _ rfl rfl (keyK HI.out) _ [] (rs_mk p now) ?_; intro w3 hm hg)
  rw [HP.out] at hm
  have HM3 := Lib.hid (Mp.of hm)
  have HA3 := Lib.hid (HA2.out.grown hg (by intro e; injection e; omega))
  have HR3 := Lib.hid (HR2.out.grown hg (by intro e; injection e; omega))
  have HB3 := Lib.hid (HB2.out.grown hg HB2.out.size (fun k hk => by injection hk; omega))
  clear hm hg
  cases Rw3.row HA3.out
  cases Rw3.row HR3.out
  go_wp2_with fail
  refine (with_any room age (some b) (some b') _).mono ?_
  rintro e w4 ⟨rfl, hb⟩
  have HR4 := Lib.hid (HR3.out.below hb HR3.out.lt)
  have HM4 := Lib.hid (HM3.out.on hb)
  have HB4 := Lib.hid (HB3.out.trans (hb.mono HB3.out.size))
  clear hb
  cases Rw3.row HR4.out
  go_wp2
  (try simp only [Exit.inBlock, Exit.then]); refine bodyPost_ret (results_row2 rfl _ _ (w.heap.size + 1) 26 _ (0, 0) _ rfl (Rw3.blk_set HR4.out _ _ _) Try.underlying26 rfl info_t) rfl ?_
  exact ⟨b', rfl, HM4.out.far (by omega) _ _ _, Rw3.below_set HB4.out (by omega) _ _ _⟩

set_option maxRecDepth 100000 in
set_option maxHeartbeats 2000000 in
theorem look_no {room age now p s y : Int} {v a : Nat} {b : Nat} {l : List Fr} {w : World} (h : Mp w b l) (hk : ∀ x ∈ l, okK x) (hin : InK v a) (hf : found (findK l v a) = (p, s, false)) (hy : IntKind.i64.wrap (s + age) = y) :
    Calls Try.prog 9 #[tbV room age (some b), .int .i64 now, .int .u16 (v : Int), .int .u64 (a : Int)] w fun e w' => e = .returned (.tuple #[.int .i64 (-1), .bool false]) ∧ Below w.heap.size w w' := by
  have hl := Lib.hid ((h.alloc (.cells (tbC room age (some b)) 26)).look hk hin hf)
  have HY := Lib.hid hy
  clear h hk hf hin hy
  go_enter Try.func9, Try.ntmps9
  go_upto_region 2 with (at_lookup; refine wpList_look _ rfl _ _ _ rfl b _ _ rfl rfl hl.out ?_)
  have HA := Lib.hid (blk_two w 26 55 (tbC room age (some b)) #[.int .i64 p, .int .i64 s])
  have HS := Lib.hid (fresh_second w (.cells (tbC room age (some b)) 26) 55 #[.int .i64 p, .int .i64 s])
  have HB := Lib.hid (below_two w (.cells (tbC room age (some b)) 26) (.cells #[.int .i64 p, .int .i64 s] 55))
  clear hl
  generalize (w.alloc (.cells (tbC room age (some b)) 26)).alloc (.cells #[.int .i64 p, .int .i64 s] 55) = w0 at HA HS HB ⊢
  cases Rw3.row HA.out
  cases Rw2.row HS.out
  go_wp2
  go_ret2
  exact ⟨rfl, HB.out⟩

set_option maxRecDepth 100000 in
set_option maxHeartbeats 2000000 in
theorem look_old {room age now p s y : Int} {v a : Nat} {b : Nat} {l : List Fr} {w : World} (h : Mp w b l) (hk : ∀ x ∈ l, okK x) (hin : InK v a) (hf : found (findK l v a) = (p, s, true)) (hy : IntKind.i64.wrap (s + age) = y) (ho : decide (y ≤ now) = true) :
    Calls Try.prog 9 #[tbV room age (some b), .int .i64 now, .int .u16 (v : Int), .int .u64 (a : Int)] w fun e w' => e = .returned (.tuple #[.int .i64 (-1), .bool false]) ∧ Below w.heap.size w w' := by
  have hl := Lib.hid ((h.alloc (.cells (tbC room age (some b)) 26)).look hk hin hf)
  have HY := Lib.hid hy
  clear h hk hf hin hy
  go_enter Try.func9, Try.ntmps9
  go_upto_region 2 with (at_lookup; refine wpList_look _ rfl _ _ _ rfl b _ _ rfl rfl hl.out ?_)
  have HA := Lib.hid (blk_two w 26 55 (tbC room age (some b)) #[.int .i64 p, .int .i64 s])
  have HS := Lib.hid (fresh_second w (.cells (tbC room age (some b)) 26) 55 #[.int .i64 p, .int .i64 s])
  have HB := Lib.hid (below_two w (.cells (tbC room age (some b)) 26) (.cells #[.int .i64 p, .int .i64 s] 55))
  clear hl
  generalize (w.alloc (.cells (tbC room age (some b)) 26)).alloc (.cells #[.int .i64 p, .int .i64 s] 55) = w0 at HA HS HB ⊢
  cases Rw3.row HA.out
  cases Rw2.row HS.out
  go_wp2_with fail
  refine (old_any room age p s now y (some b) _ HY.out).mono ?_
  rintro e w1 ⟨rfl, hb⟩
  have HS1 := Lib.hid (HS.out.below hb HS.out.lt)
  have HB1 := Lib.hid (HB.out.trans (hb.mono HB.out.size))
  clear hb
  cases Rw2.row HS1.out
  go_wp2
  go_ret2
  exact ⟨rfl, HB1.out⟩

set_option maxRecDepth 100000 in
set_option maxHeartbeats 2000000 in
theorem look_new {room age now p s y : Int} {v a : Nat} {b : Nat} {l : List Fr} {w : World} (h : Mp w b l) (hk : ∀ x ∈ l, okK x) (hin : InK v a) (hf : found (findK l v a) = (p, s, true)) (hy : IntKind.i64.wrap (s + age) = y) (ho : decide (y ≤ now) = false) :
    Calls Try.prog 9 #[tbV room age (some b), .int .i64 now, .int .u16 (v : Int), .int .u64 (a : Int)] w fun e w' => e = .returned (.tuple #[.int .i64 p, .bool true]) ∧ Below w.heap.size w w' := by
  have hl := Lib.hid ((h.alloc (.cells (tbC room age (some b)) 26)).look hk hin hf)
  have HY := Lib.hid hy
  clear h hk hf hin hy
  go_enter Try.func9, Try.ntmps9
  go_upto_region 2 with (at_lookup; refine wpList_look _ rfl _ _ _ rfl b _ _ rfl rfl hl.out ?_)
  have HA := Lib.hid (blk_two w 26 55 (tbC room age (some b)) #[.int .i64 p, .int .i64 s])
  have HS := Lib.hid (fresh_second w (.cells (tbC room age (some b)) 26) 55 #[.int .i64 p, .int .i64 s])
  have HB := Lib.hid (below_two w (.cells (tbC room age (some b)) 26) (.cells #[.int .i64 p, .int .i64 s] 55))
  clear hl
  generalize (w.alloc (.cells (tbC room age (some b)) 26)).alloc (.cells #[.int .i64 p, .int .i64 s] 55) = w0 at HA HS HB ⊢
  cases Rw3.row HA.out
  cases Rw2.row HS.out
  go_wp2_with fail
  refine (old_any room age p s now y (some b) _ HY.out).mono ?_
  rintro e w1 ⟨rfl, hb⟩
  have HS1 := Lib.hid (HS.out.below hb HS.out.lt)
  have HB1 := Lib.hid (HB.out.trans (hb.mono HB.out.size))
  clear hb
  cases Rw2.row HS1.out
  go_wp2
  go_ret2
  exact ⟨rfl, HB1.out⟩

/-- what a look-up answers -/
def lookR (l : List Fr) (v a : Nat) (now age : Int) : Int × Bool := match findK l v a with | some x => if now - x.seen < age then (x.port, true) else (-1, false) | none => (-1, false)
theorem look_any {room age now : Int} {v a : Nat} {b : Nat} {l : List Fr} {w : World} {q : Int} {k : Bool} (h : Mp w b l) (hk : ∀ x ∈ l, okK x) (hin : InK v a) (hs : ∀ x ∈ l, 0 ≤ x.seen ∧ x.seen ≤ 1099511627776) (ha : 0 ≤ age ∧ age ≤ 1048576) (hr : lookR l v a now age = (q, k)) :
    Calls Try.prog 9 #[tbV room age (some b), .int .i64 now, .int .u16 (v : Int), .int .u64 (a : Int)] w fun e w' => e = .returned (.tuple #[.int .i64 q, .bool k]) ∧ Below w.heap.size w w' := by
  unfold lookR at hr
  cases ho : findK l v a with
  | none =>
    rw [ho] at hr
    simp only [Prod.mk.injEq] at hr
    rw [← hr.1, ← hr.2]
    exact look_no h hk hin (by rw [ho]; rfl) rfl
  | some x =>
    rw [ho] at hr
    have hx : x ∈ l := List.mem_of_find?_eq_some ho
    have h1 := hs x hx
    have hy : IntKind.i64.wrap (x.seen + age) = x.seen + age := by rw [IntKind.wrap_i64]; omega
    by_cases hd : now - x.seen < age
    · simp only [hd, if_true, Prod.mk.injEq] at hr
      rw [← hr.1, ← hr.2]
      exact look_new h hk hin (by rw [ho]; rfl) hy (decide_eq_false (by omega))
    · simp only [hd, if_false, Prod.mk.injEq] at hr
      rw [← hr.1, ← hr.2]
      exact look_old h hk hin (by rw [ho]; rfl) hy (decide_eq_true (by omega))
end Go.Proofs.Ytljkodfdiebfiaa.Fd
