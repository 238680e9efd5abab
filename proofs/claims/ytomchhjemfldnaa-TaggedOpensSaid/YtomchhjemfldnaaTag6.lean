/-
  Contract of tagged's Open.
-/
import Derived.Test.YtomchhjemfldnaaTag5
import Derived.Laws.ResultCell
namespace Go.Proofs.Ytomchhjemfldnaa.Tg
open Go.RowKit Go.Proofs.Ytomchhjemfldnaa.Bt Go.Proofs.Ytomchhjemfldnaa.Mm Go.Proofs.Ytomchhjemfldnaa.Fl Go.Proofs.Ytomchhjemfldnaa.Rf Go.Proofs.Ytomchhjemfldnaa.Hx Go.Proofs.Ytomchhjemfldnaa.Lw Go.Proofs.Ytomchhjemfldnaa.Mc

abbrev widths : List Int := [48, 48, 16, 3, 1, 12, 16]
theorem results_row2 {P : Program} {fn : Func} {p u : Tmp} {ty : TypeId} (h : fn.results = #[.cell p ty, .tmp u]) (tmps : Array Value) (w : World) (g : Nat) (t : TypeId) (cs : Array Value) (fr : Nat × Nat) (d : TypeDesc)
    (hp : tmps.getD p undef = .pointer (some ⟨g, 0, none⟩)) (hg : w.heap[g]? = some (.cells cs t fr))
    (hu : P.underlying ty = some d) (hd : (match d with | .struct _ | .array _ _ => true | _ => false) = true) (hi : (P.info? ty).map (·.size) = some cs.size) :
    (results fn tmps).run P w = .ok (.tuple #[.agg cs, tmps.getD u undef]) w := by
  rw [results_cell_tmp h, hp]
  simp [asAddr, run_loadVar_row w g t ty cs fr d hg hu hd hi, Result.andThen]

theorem fresh_second (w : World) (o : Obj) (t : TypeId) (cs : Array Value) : Blk ((w.alloc o).alloc (.cells cs t)) (w.heap.size + 1) t cs := heap_alloc2_new w o (.cells cs t)
/-- seven cells written, one after the other -/
abbrev set7 (w : World) (g : Nat) (x0 x1 x2 x3 x4 x5 x6 : Value) : World :=
  ((((((w.setCell ⟨g, 0, none⟩ x0).setCell ⟨g, 1, none⟩ x1).setCell ⟨g, 2, none⟩ x2).setCell ⟨g, 3, none⟩ x3).setCell ⟨g, 4, none⟩ x4).setCell ⟨g, 5, none⟩ x5).setCell ⟨g, 6, none⟩ x6
theorem blk_set7 {w : World} {g : Nat} {t : TypeId} {y0 y1 y2 y3 y4 y5 y6 : Value} (h : Blk w g t #[y0, y1, y2, y3, y4, y5, y6]) (x0 x1 x2 x3 x4 x5 x6 : Value) : Blk (set7 w g x0 x1 x2 x3 x4 x5 x6) g t #[x0, x1, x2, x3, x4, x5, x6] := by
  have h0 : Blk _ g t #[x0, y1, y2, y3, y4, y5, y6] := h.put 0 x0
  have h1 : Blk _ g t #[x0, x1, y2, y3, y4, y5, y6] := h0.put 1 x1
  have h2 : Blk _ g t #[x0, x1, x2, y3, y4, y5, y6] := h1.put 2 x2
  have h3 : Blk _ g t #[x0, x1, x2, x3, y4, y5, y6] := h2.put 3 x3
  have h4 : Blk _ g t #[x0, x1, x2, x3, x4, y5, y6] := h3.put 4 x4
  have h5 : Blk _ g t #[x0, x1, x2, x3, x4, x5, y6] := h4.put 5 x5
  exact h5.put 6 x6
theorem below_set7 {a w : World} {B g : Nat} (h : Below B a w) (hg : B ≤ g) (x0 x1 x2 x3 x4 x5 x6 : Value) : Below B a (set7 w g x0 x1 x2 x3 x4 x5 x6) :=
  ((((((h.setCell (p := ⟨g, 0, none⟩) hg x0).setCell (p := ⟨g, 1, none⟩) hg x1).setCell (p := ⟨g, 2, none⟩) hg x2).setCell (p := ⟨g, 3, none⟩) hg x3).setCell (p := ⟨g, 4, none⟩) hg x4).setCell (p := ⟨g, 5, none⟩) hg x5).setCell (p := ⟨g, 6, none⟩) hg x6
/-- what a walk wants to know of a block of seven cells -/
structure Row7 (w : World) (g : Nat) (x0 x1 x2 x3 x4 x5 x6 : Value) : Prop where
  c0 : w.cell? ⟨g, 0, none⟩ = some x0
  c1 : w.cell? ⟨g, 1, none⟩ = some x1
  c2 : w.cell? ⟨g, 2, none⟩ = some x2
  c3 : w.cell? ⟨g, 3, none⟩ = some x3
  c4 : w.cell? ⟨g, 4, none⟩ = some x4
  c5 : w.cell? ⟨g, 5, none⟩ = some x5
  c6 : w.cell? ⟨g, 6, none⟩ = some x6
  z0 : w.frozen? ⟨g, 0, none⟩ = false
  z1 : w.frozen? ⟨g, 1, none⟩ = false
  z2 : w.frozen? ⟨g, 2, none⟩ = false
  z3 : w.frozen? ⟨g, 3, none⟩ = false
  z4 : w.frozen? ⟨g, 4, none⟩ = false
  z5 : w.frozen? ⟨g, 5, none⟩ = false
  z6 : w.frozen? ⟨g, 6, none⟩ = false
theorem row7 {w : World} {g : Nat} {t : TypeId} {x0 x1 x2 x3 x4 x5 x6 : Value} (h : Blk w g t #[x0, x1, x2, x3, x4, x5, x6]) : Row7 w g x0 x1 x2 x3 x4 x5 x6 :=
  ⟨h.cell 0, h.cell 1, h.cell 2, h.cell 3, h.cell 4, h.cell 5, h.cell 6, h.frozen 0, h.frozen 1, h.frozen 2, h.frozen 3, h.frozen 4, h.frozen 5, h.frozen 6⟩
abbrev zeroCells : Array Value := #[.int .u64 0, .int .u64 0, .int .u8 0, .bool false, .int .u16 0, .int .u16 0, .string ⟨#[]⟩]
theorem info_frame : (Try.prog.info? 26).map (·.size) = some 7 := by kernel_rfl
theorem info_rframe : (Try.prog.info? 34).map (·.size) = some 7 := by kernel_rfl

set_option maxRecDepth 100000 in
set_option maxHeartbeats 1000000 in
theorem open_short (s : ByteArray) (w : World) (hs : s.size ≤ maxLen) (hsp : splitR s widths = ([], ⟨#[]⟩, 1)) :
    Calls Try.prog 10 #[.string s] w fun e w' => e = .returned (.tuple #[frV 0 0 0 false 0 0 ⟨#[]⟩, .int .i64 1]) ∧ Below w.heap.size w w' := by
  have HS := Lib.hid hsp; clear hsp
  go_enter Try.func10, Try.ntmps10
  go_wp2_with fail
  refine (split_blk s widths _ _ 0 _ _ _ _ (fresh_second _ _ _ _) rfl HS.out rfl rfl hs (by simp)).mono ?_
  rintro e w1 ⟨A', c', rfl, hr, hb⟩
  have hbk := ((Blk.fresh w 26 zeroCells).alloc _).below hb (by simp; omega)
  have HB := Lib.hid ((((Below.refl w.heap.size w).alloc (Nat.le_refl _) _).alloc (by simp) _).trans (hb.mono (by simp; omega)))
  obtain ⟨c0, c1, c2, c3, c4, c5, c6, z0, z1, z2, z3, z4, z5, z6⟩ := row7 hbk
  have HK := Lib.hid hbk
  clear hb hbk hr
  go_wp2
  (try simp only [Exit.inBlock, Exit.then]); refine bodyPost_ret (results_row2 rfl _ _ w.heap.size 26 _ (0, 0) _ rfl (blk_set7 HK.out _ _ _ _ _ _ _) Try.underlying26 rfl info_frame) rfl ?_
  exact ⟨rfl, below_set7 HB.out (Nat.le_refl _) _ _ _ _ _ _ _⟩
set_option maxRecDepth 100000 in
set_option maxHeartbeats 1000000 in
theorem open_long (s body : ByteArray) (d sr m p q v t : Nat) (w : World) (hs : s.size ≤ maxLen) (hl : 1600 < s.size) (hsp : splitR s widths = ([d, sr, m, p, q, v, t], body, 0)) :
    Calls Try.prog 10 #[.string s] w fun e w' => e = .returned (.tuple #[frV 0 0 0 false 0 0 ⟨#[]⟩, .int .i64 2]) ∧ Below w.heap.size w w' := by
  have HS := Lib.hid hsp; clear hsp
  go_enter Try.func10, Try.ntmps10
  go_wp2_with fail
  refine (split_blk s widths _ _ 7 _ _ _ _ (fresh_second _ _ _ _) rfl HS.out rfl rfl hs (by simp)).mono ?_
  rintro e w1 ⟨A', c', rfl, hr, hb⟩
  have hbk := ((Blk.fresh w 26 zeroCells).alloc _).below hb (by simp; omega)
  have HB := Lib.hid ((((Below.refl w.heap.size w).alloc (Nat.le_refl _) _).alloc (by simp) _).trans (hb.mono (by simp; omega)))
  obtain ⟨c0, c1, c2, c3, c4, c5, c6, z0, z1, z2, z3, z4, z5, z6⟩ := row7 hbk
  have HK := Lib.hid hbk
  clear hb hbk hr
  unfold maxLen at hs
  go_wp2
  (try simp only [Exit.inBlock, Exit.then]); refine bodyPost_ret (results_row2 rfl _ _ w.heap.size 26 _ (0, 0) _ rfl (blk_set7 HK.out _ _ _ _ _ _ _) Try.underlying26 rfl info_frame) rfl ?_
  exact ⟨rfl, below_set7 HB.out (Nat.le_refl _) _ _ _ _ _ _ _⟩
set_option maxRecDepth 100000 in
set_option maxHeartbeats 1000000 in
theorem open_tag (s body : ByteArray) (d sr m p q v t : Nat) (w : World) (hl : s.size ≤ 1600) (hm : m ≠ 33024) (hsp : splitR s widths = ([d, sr, m, p, q, v, t], body, 0)) :
    Calls Try.prog 10 #[.string s] w fun e w' => e = .returned (.tuple #[frV 0 0 0 false 0 0 ⟨#[]⟩, .int .i64 5]) ∧ Below w.heap.size w w' := by
  have hs : s.size ≤ maxLen := by unfold maxLen; omega
  have hm' : ((m : Int) != 33024) = true := by simp; omega
  have hl' : decide ((1600 : Int) < (s.size : Int)) = false := by simp; omega
  have HS := Lib.hid hsp; clear hsp
  go_enter Try.func10, Try.ntmps10
  go_wp2_with fail
  refine (split_blk s widths _ _ 7 _ _ _ _ (fresh_second _ _ _ _) rfl HS.out rfl rfl hs (by simp)).mono ?_
  rintro e w1 ⟨A', c', rfl, hr, hb⟩
  have hbk := ((Blk.fresh w 26 zeroCells).alloc _).below hb (by simp; omega)
  have HB := Lib.hid ((((Below.refl w.heap.size w).alloc (Nat.le_refl _) _).alloc (by simp) _).trans (hb.mono (by simp; omega)))
  obtain ⟨c0, c1, c2, c3, c4, c5, c6, z0, z1, z2, z3, z4, z5, z6⟩ := row7 hbk
  have HK := Lib.hid hbk
  obtain ⟨ad, rfl, _, hcell⟩ := hr (by simp [nums])
  have e2 := hcell 2 _ rfl
  simp [Addr.add] at e2
  clear hb hbk hr hcell
  unfold maxLen at hs
  go_wp2
  (try simp only [Exit.inBlock, Exit.then]); refine bodyPost_ret (results_row2 rfl _ _ w.heap.size 26 _ (0, 0) _ rfl (blk_set7 HK.out _ _ _ _ _ _ _) Try.underlying26 rfl info_frame) rfl ?_
  exact ⟨rfl, below_set7 HB.out (Nat.le_refl _) _ _ _ _ _ _ _⟩
set_option maxRecDepth 100000 in
set_option maxHeartbeats 1000000 in
theorem open_rest (s body : ByteArray) (d sr p q v t k : Nat) (dr : Bool) (w : World) (hl : s.size ≤ 1600) (hsp : splitR s widths = ([d, sr, 33024, p, q, v, t], body, 0)) (hsr : sr < 18446744073709551616) (hbl : body.size ≤ 1600) (hp : p < 256) (hv : v < 65536) (ht : t < 65536) (hq : ((q : Int) == 1) = dr) (hw : wrongT (frT d sr p dr v t body) = k) (R : Value) (hR : R = if k = 0 then frV d sr p dr v t body else frV 0 0 0 false 0 0 ⟨#[]⟩) :
    Calls Try.prog 10 #[.string s] w fun e w' => e = .returned (.tuple #[R, .int .i64 (k : Int)]) ∧ Below w.heap.size w w' := by
  have hs : s.size ≤ maxLen := by unfold maxLen; omega
  have hl' : decide ((1600 : Int) < (s.size : Int)) = false := by simp; omega
  have HW := Lib.hid hw; clear hw
  have HR := Lib.hid hR; clear hR
  have HS := Lib.hid hsp; clear hsp
  go_enter Try.func10, Try.ntmps10
  go_wp2_with fail
  refine (split_blk s widths _ _ 7 _ _ _ _ (fresh_second _ _ _ _) rfl HS.out rfl rfl hs (by simp)).mono ?_
  rintro e w1 ⟨A', c', rfl, hr, hb⟩
  have hbk := ((Blk.fresh w 26 zeroCells).alloc _).below hb (by simp; omega)
  have HB := Lib.hid ((((Below.refl w.heap.size w).alloc (Nat.le_refl _) _).alloc (by simp) _).trans (hb.mono (by simp; omega)))
  obtain ⟨c0, c1, c2, c3, c4, c5, c6, z0, z1, z2, z3, z4, z5, z6⟩ := row7 hbk
  have HK := Lib.hid hbk
  obtain ⟨ad, rfl, _, hcell⟩ := hr (by simp [nums])
  have e0 := hcell 0 _ rfl
  have e1 := hcell 1 _ rfl
  have e2 := hcell 2 _ rfl
  have e3 := hcell 3 _ rfl
  have e4 := hcell 4 _ rfl
  have e5 := hcell 5 _ rfl
  have e6 := hcell 6 _ rfl
  simp [Addr.add] at e0 e1 e2 e3 e4 e5 e6
  clear hb hbk hr hcell
  unfold maxLen at hs
  go_wp2_with fail
  have q0 : IntKind.u8.wrap (p : Int) = (p : Int) := IntWalk.u8_in _ ⟨by omega, by omega⟩
  have q1 : IntKind.u16.wrap (v : Int) = (v : Int) := IntWalk.u16_in _ ⟨by omega, by omega⟩
  have q2 : IntKind.u16.wrap (t : Int) = (t : Int) := IntWalk.u16_in _ ⟨by omega, by omega⟩
  have hlo : w.heap.size < w1.heap.size := HK.out.lt
  go_region_held3 (fun w' => w'.cell? ad = some (.int .u64 (d : Int)) ∧ w'.cell? ⟨ad.block, ad.off + 1, none⟩ = some (.int .u64 (sr : Int)) ∧ w'.cell? ⟨ad.block, ad.off + 3, none⟩ = some (.int .u64 (p : Int)) ∧ w'.cell? ⟨ad.block, ad.off + 4, none⟩ = some (.int .u64 (q : Int)) ∧ w'.cell? ⟨ad.block, ad.off + 5, none⟩ = some (.int .u64 (v : Int)) ∧ w'.cell? ⟨ad.block, ad.off + 6, none⟩ = some (.int .u64 (t : Int))) (first | exact ⟨e0, e1, e3, e4, e5, e6⟩ | go_keep)
    (first | (go_at_call 15; refine (drop_any true 1 _ rfl).mono ?_; rintro e w2 ⟨rfl, rfl⟩))
  all_goals
    have HX := Lib.hid (Blk.fresh w1 26 #[.int .u64 (d : Int), .int .u64 (sr : Int), .int .u8 (p : Int), .bool dr, .int .u16 (v : Int), .int .u16 (t : Int), .string body]).drew
    have HK2 := Lib.hid (HK.out.alloc (.cells #[.int .u64 (d : Int), .int .u64 (sr : Int), .int .u8 (p : Int), .bool dr, .int .u16 (v : Int), .int .u16 (t : Int), .string body] 26)).drew
    have HB2 := Lib.hid (HB.out.alloc HB.out.size (.cells #[.int .u64 (d : Int), .int .u64 (sr : Int), .int .u8 (p : Int), .bool dr, .int .u16 (v : Int), .int .u16 (t : Int), .string body] 26)).drew
    obtain ⟨i0, i1, i2, i3, i4, i5, i6, _⟩ := row7 HX.out
    clear c0 c1 c2 c3 c4 c5 c6 z0 z1 z2 z3 z4 z5 z6 e0 e1 e2 e3 e4 e5 e6 q0 q1 q2
    generalize (w1.alloc (.cells #[.int .u64 (d : Int), .int .u64 (sr : Int), .int .u8 (p : Int), .bool dr, .int .u16 (v : Int), .int .u16 (t : Int), .string body] 26)).drew = wB at *
    go_wp2_with fail
    refine (wrong_at k d sr p v t dr body _ HW.out hsr (by unfold maxLen; omega)).mono ?_
    rintro e w3 ⟨rfl, hb3⟩
    have HX3 := Lib.hid (HX.out.below hb3 HX.out.lt)
    have HK3 := Lib.hid (HK2.out.below hb3 HK2.out.lt)
    have HB3 := Lib.hid (HB2.out.trans (hb3.mono HB2.out.size))
    obtain ⟨c0, c1, c2, c3, c4, c5, c6, z0, z1, z2, z3, z4, z5, z6⟩ := row7 HK3.out
    obtain ⟨j0, j1, j2, j3, j4, j5, j6, _⟩ := row7 HX3.out
    clear hb3 i0 i1 i2 i3 i4 i5 i6
    by_cases hk : k = 0
    · have hk0 : ((k : Int) != 0) = false := by simp [hk]
      have HKK := Lib.hid (show (k : Int) = 0 by rw [hk]; rfl)
      have HRR := Lib.hid (HR.out.trans (if_pos hk))
      clear hk
      go_wp2
      (try simp only [Exit.inBlock, Exit.then]); refine bodyPost_ret (results_row2 rfl _ _ w.heap.size 26 _ (0, 0) _ rfl (blk_set7 HK3.out _ _ _ _ _ _ _) Try.underlying26 rfl info_frame) rfl ?_
      exact ⟨by rw [HKK.out, HRR.out]; rfl, below_set7 HB3.out (Nat.le_refl _) _ _ _ _ _ _ _⟩
    · have hk0 : ((k : Int) != 0) = true := by simp [hk]
      have HRR := Lib.hid (HR.out.trans (if_neg hk))
      clear hk
      go_wp2
      (try simp only [Exit.inBlock, Exit.then]); refine bodyPost_ret (results_row2 rfl _ _ w.heap.size 26 _ (0, 0) _ rfl (blk_set7 HK3.out _ _ _ _ _ _ _) Try.underlying26 rfl info_frame) rfl ?_
      exact ⟨by rw [HRR.out]; rfl, below_set7 HB3.out (Nat.le_refl _) _ _ _ _ _ _ _⟩
end Go.Proofs.Ytomchhjemfldnaa.Tg
