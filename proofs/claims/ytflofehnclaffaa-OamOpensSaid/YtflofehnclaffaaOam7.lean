/-
  Contract of oam's Open.
-/
import Derived.Test.YtflofehnclaffaaOam5
namespace Go.Proofs.Ytflofehnclaffaa.Oa
open Go.RowKit Go.Proofs.Ytflofehnclaffaa.Bt Go.Proofs.Ytflofehnclaffaa.Mm Go.Proofs.Ytflofehnclaffaa.Fl Go.Proofs.Ytflofehnclaffaa.Lw Go.Proofs.Ytflofehnclaffaa.Tg

theorem results_cell_tmp2 {fn : Func} {p u v : Tmp} {ty : TypeId} (h : fn.results = #[.cell p ty, .tmp u, .tmp v]) (tmps : Array Value) (P : Program) (w : World) :
    (results fn tmps).run P w = ((asAddr (tmps.getD p undef)).run P w).andThen fun a w₁ => ((loadVar ty a).run P w₁).andThen fun x w₂ => .ok (.tuple #[x, tmps.getD u undef, tmps.getD v undef]) w₂ := by
  simp only [results, h]
  simp [Sem.run_bind, Result.andThen]
theorem results_row3 {P : Program} {fn : Func} {p u v : Tmp} {ty : TypeId} (h : fn.results = #[.cell p ty, .tmp u, .tmp v]) (tmps : Array Value) (w : World) (g : Nat) (t : TypeId) (cs : Array Value) (fr : Nat × Nat) (d : TypeDesc)
    (hp : tmps.getD p undef = .pointer (some ⟨g, 0, none⟩)) (hg : w.heap[g]? = some (.cells cs t fr))
    (hu : P.underlying ty = some d) (hd : (match d with | .struct _ | .array _ _ => true | _ => false) = true) (hi : (P.info? ty).map (·.size) = some cs.size) :
    (results fn tmps).run P w = .ok (.tuple #[.agg cs, tmps.getD u undef, tmps.getD v undef]) w := by
  rw [results_cell_tmp2 h, hp]
  simp [asAddr, run_loadVar_row w g t ty cs fr d hg hu hd hi, Result.andThen]
theorem info_head : (Try.prog.info? 23).map (·.size) = some 5 := by kernel_rfl
theorem info_rhead : (Try.prog.info? 30).map (·.size) = some 5 := by kernel_rfl
abbrev zeroHC : Array Value := #[.int .u8 0, .int .u8 0, .int .u8 0, .int .u8 0, .int .u8 0]

set_option maxRecDepth 100000 in
set_option maxHeartbeats 1000000 in
theorem open_short (s : ByteArray) (w : World) (hs : s.size ≤ maxLen) (hsp : splitR s widthsH = ([], ⟨#[]⟩, 1)) :
    Calls Try.prog 9 #[.string s] w fun e w' => e = .returned (.tuple #[hdV 0 0 0 0 0, .string ⟨#[]⟩, .int .i64 1]) ∧ Below w.heap.size w w' := by
  have HS := Lib.hid hsp; clear hsp
  go_enter Try.func9, Try.ntmps9
  go_wp2_with fail
  refine (split_blk s widthsH _ _ 0 _ _ _ _ (fresh_second _ _ _ _) rfl HS.out rfl rfl hs (by simp)).mono ?_
  rintro e w1 ⟨A', c', rfl, hr, hb⟩
  have hbk := ((Blk.fresh w 23 zeroHC).alloc _).below hb (by simp; omega)
  have HB := Lib.hid ((((Below.refl w.heap.size w).alloc (Nat.le_refl _) _).alloc (by simp) _).trans (hb.mono (by simp; omega)))
  obtain ⟨c0, c1, c2, c3, c4, z0, z1, z2, z3, z4⟩ := Rw5.row hbk
  have HK := Lib.hid hbk
  clear hb hbk hr
  go_wp2
  (try simp only [Exit.inBlock, Exit.then]); refine bodyPost_ret (results_row3 rfl _ _ w.heap.size 23 _ (0, 0) _ rfl (Rw5.blk_set HK.out _ _ _ _ _) Try.underlying23 rfl info_head) rfl ?_
  exact ⟨rfl, Rw5.below_set HB.out (Nat.le_refl _) _ _ _ _ _⟩
set_option maxRecDepth 100000 in
set_option maxHeartbeats 1000000 in
theorem open_few (s r : ByteArray) (l v c f o : Nat) (w : World) (hs : s.size ≤ maxLen) (hr2 : r.size ≤ o) (ho : o < 256) (hsp : splitR s widthsH = ([l, v, c, f, o], r, 0)) :
    Calls Try.prog 9 #[.string s] w fun e w' => e = .returned (.tuple #[hdV 0 0 0 0 0, .string ⟨#[]⟩, .int .i64 1]) ∧ Below w.heap.size w w' := by
  have HS := Lib.hid hsp; clear hsp
  have q1 : IntKind.i64.wrap (o : Int) = (o : Int) := IntWalk.i64_in _ ⟨by omega, by omega⟩
  have q2 : decide ((r.size : Int) ≤ (o : Int)) = true := by simp; omega
  go_enter Try.func9, Try.ntmps9
  go_wp2_with fail
  refine (split_blk s widthsH _ _ 5 _ _ _ _ (fresh_second _ _ _ _) rfl HS.out rfl rfl hs (by simp)).mono ?_
  rintro e w1 ⟨A', c', rfl, hr, hb⟩
  have hbk := ((Blk.fresh w 23 zeroHC).alloc _).below hb (by simp; omega)
  have HB := Lib.hid ((((Below.refl w.heap.size w).alloc (Nat.le_refl _) _).alloc (by simp) _).trans (hb.mono (by simp; omega)))
  obtain ⟨c0, c1, c2, c3, c4, z0, z1, z2, z3, z4⟩ := Rw5.row hbk
  have HK := Lib.hid hbk
  obtain ⟨ad, rfl, _, hcell⟩ := hr (by simp [nums])
  have e4 := hcell 4 _ rfl
  simp [Addr.add] at e4
  clear hb hbk hr hcell
  go_wp2
  (try simp only [Exit.inBlock, Exit.then]); refine bodyPost_ret (results_row3 rfl _ _ w.heap.size 23 _ (0, 0) _ rfl (Rw5.blk_set HK.out _ _ _ _ _) Try.underlying23 rfl info_head) rfl ?_
  exact ⟨rfl, Rw5.below_set HB.out (Nat.le_refl _) _ _ _ _ _⟩
set_option maxRecDepth 100000 in
set_option maxHeartbeats 1000000 in
theorem open_end (s r : ByteArray) (l v c f o : Nat) (w : World) (hs : s.size ≤ maxLen) (hr2 : o < r.size) (ho : o < 256) (hsp : splitR s widthsH = ([l, v, c, f, o], r, 0)) (b : Nat) (hb0 : (r[o]'hr2).toNat = b) (hbn : b ≠ 0) :
    Calls Try.prog 9 #[.string s] w fun e w' => e = .returned (.tuple #[hdV 0 0 0 0 0, .string ⟨#[]⟩, .int .i64 3]) ∧ Below w.heap.size w w' := by
  have HS := Lib.hid hsp; clear hsp
  have q1 : IntKind.i64.wrap (o : Int) = (o : Int) := IntWalk.i64_in _ ⟨by omega, by omega⟩
  have q2 : decide ((r.size : Int) ≤ (o : Int)) = false := by simp; omega
  have q3 : ((b : Int) != 0) = true := by simp; omega
  go_enter Try.func9, Try.ntmps9
  go_wp2_with fail
  refine (split_blk s widthsH _ _ 5 _ _ _ _ (fresh_second _ _ _ _) rfl HS.out rfl rfl hs (by simp)).mono ?_
  rintro e w1 ⟨A', c', rfl, hr, hb⟩
  have hbk := ((Blk.fresh w 23 zeroHC).alloc _).below hb (by simp; omega)
  have HB := Lib.hid ((((Below.refl w.heap.size w).alloc (Nat.le_refl _) _).alloc (by simp) _).trans (hb.mono (by simp; omega)))
  obtain ⟨c0, c1, c2, c3, c4, z0, z1, z2, z3, z4⟩ := Rw5.row hbk
  have HK := Lib.hid hbk
  obtain ⟨ad, rfl, _, hcell⟩ := hr (by simp [nums])
  have e4 := hcell 4 _ rfl
  simp [Addr.add] at e4
  clear hb hbk hr hcell hbn
  go_wp2
  (try simp only [Exit.inBlock, Exit.then]); refine bodyPost_ret (results_row3 rfl _ _ w.heap.size 23 _ (0, 0) _ rfl (Rw5.blk_set HK.out _ _ _ _ _) Try.underlying23 rfl info_head) rfl ?_
  exact ⟨rfl, Rw5.below_set HB.out (Nat.le_refl _) _ _ _ _ _⟩
end Go.Proofs.Ytflofehnclaffaa.Oa
