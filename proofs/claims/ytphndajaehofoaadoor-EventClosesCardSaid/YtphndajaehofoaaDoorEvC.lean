/-
  Event: contracts of head (the bytes ahead of an event's Bytes) and first (the event that stands first).
-/
import Derived.Test.YtphndajaehofoaaDoorEvB
import Derived.Test.YtphndajaehofoaaDoorOamB
namespace Go.Proofs.YtphndajaehofoaaDoor.Ev
open Go.RowKit Go.Proofs.YtphndajaehofoaaDoor.Bt Go.Proofs.YtphndajaehofoaaDoor.Mm Go.Proofs.YtphndajaehofoaaDoor.Fl Go.Proofs.YtphndajaehofoaaDoor.Lw Go.Proofs.YtphndajaehofoaaDoor.Tg Go.Proofs.YtphndajaehofoaaDoor.Oa Go.Proofs.YtphndajaehofoaaDoor.Op
set_option linter.unusedVariables false
set_option linter.unusedSimpArgs false

abbrev partsE (k a b c n : Nat) : List (Int × Nat) := [(8, k), (8, a), (8, b), (8, c), (16, n)]
abbrev widthsE : List Int := [8, 8, 8, 8, 16]
theorem pack_ev (k a b c n : Nat) (hk : k < 256) (ha : a < 256) (hb : b < 256) (hc : c < 256) (hn : n < 65536) : packR (partsE k a b c n) = (headE k a b c n, 0) := by
  have e0 : bitsN n 16 = bitsN (n / 256) 8 ++ bitsN (n % 256) 8 := by
    have := bitsN_join (n / 256) (n % 256) 8 8 (by omega)
    rwa [show n / 256 * 2 ^ 8 + n % 256 = n by omega] at this
  have e : allBits (partsE k a b c n) = bitsB (headE k a b c n) := by
    have e1 : allBits (partsE k a b c n) = bitsN k 8 ++ (bitsN a 8 ++ (bitsN b 8 ++ (bitsN c 8 ++ bitsN n 16))) := by simp [allBits]
    rw [e1, e0]
    simp [headE, bitsB, Nat.mod_eq_of_lt hk, Nat.mod_eq_of_lt ha, Nat.mod_eq_of_lt hb, Nat.mod_eq_of_lt hc, Nat.mod_eq_of_lt (show n / 256 < 256 by omega)]
  have hok : (partsE k a b c n).all okP = true := by
    simp only [List.all_cons, List.all_nil, Bool.and_true, Bool.and_eq_true, okP, decide_eq_true_eq]
    refine ⟨⟨by omega, by omega, ?_⟩, ⟨by omega, by omega, ?_⟩, ⟨by omega, by omega, ?_⟩, ⟨by omega, by omega, ?_⟩, ⟨by omega, by omega, ?_⟩⟩ <;> simp <;> omega
  unfold packR
  rw [if_pos hok, e, if_pos (by rw [length_bitsB]; omega), bytesOf_bitsB]
theorem split_ev (s : ByteArray) (h : 6 ≤ s.size) : splitR s widthsE = ([byE s 0, byE s 1, byE s 2, byE s 3, numE s 0], s.extract 6 s.size, 0) := by
  have e1 : widthsE.all okW = true := by decide
  have e2 : tot widthsE = 48 := by decide
  have ev : valsOf s widthsE = [getB s 0 8, getB s 8 8, getB s 16 8, getB s 24 8, getB s 32 16] := rfl
  have h0 := getB_join s 32 8 8 (by omega)
  have b0 := byte_get s 0 (by omega)
  have b1 := byte_get s 1 (by omega)
  have b2 := byte_get s 2 (by omega)
  have b3 := byte_get s 3 (by omega)
  have b4 := byte_get s 4 (by omega)
  have b5 := byte_get s 5 (by omega)
  simp only [Nat.reduceAdd, Nat.reduceMul, Nat.reducePow, Nat.mul_zero] at h0 b0 b1 b2 b3 b4 b5
  unfold splitR
  rw [if_pos e1, e2, if_pos (by decide), if_pos (by omega), ev, b0, b1, b2, b3, h0, b4, b5]
  rfl
theorem split_ev_short (s : ByteArray) (h : s.size < 6) : splitR s widthsE = ([], ⟨#[]⟩, 1) := by
  have e1 : widthsE.all okW = true := by decide
  have e2 : tot widthsE = 48 := by decide
  unfold splitR
  rw [if_pos e1, e2, if_pos (by decide), if_neg (by omega)]

set_option maxRecDepth 100000 in
set_option maxHeartbeats 1000000 in
theorem head_at (k a b c n : Nat) (s hb : List UInt8) (t : ByteArray) (w : World) (hk : k < 256) (ha : a < 256) (hb' : b < 256) (hc : c < 256) (hn : t.size = n) (hn2 : n < 65536) (hp : packR (partsE k a b c n) = (hb, 0)) :
    Calls Tryd.prog 19 #[evV k a b c t] w fun x w' => x = .returned (.string ⟨hb.toArray⟩) ∧ Below w.heap.size w w' := by
  have HP := Lib.hid hp; clear hp
  have hv : ∀ q ∈ partsE k a b c n, q.2 < 18446744073709551616 := by
    intro q hq
    simp only [List.mem_cons, List.not_mem_nil, or_false] at hq
    rcases hq with rfl | rfl | rfl | rfl | rfl <;> simp only <;> omega
  have HV := Lib.hid hv; clear hv
  have q1 : IntKind.u64.wrap (k : Int) = (k : Int) := IntWalk.u64_in _ ⟨by omega, by omega⟩
  have q2 : IntKind.u64.wrap (a : Int) = (a : Int) := IntWalk.u64_in _ ⟨by omega, by omega⟩
  have q3 : IntKind.u64.wrap (b : Int) = (b : Int) := IntWalk.u64_in _ ⟨by omega, by omega⟩
  have q4 : IntKind.u64.wrap (c : Int) = (c : Int) := IntWalk.u64_in _ ⟨by omega, by omega⟩
  have q5 : IntKind.u64.wrap (n : Int) = (n : Int) := IntWalk.u64_in _ ⟨by omega, by omega⟩
  clear hk ha hb' hc hn2
  go_enter Tryd.func19, Tryd.ntmps19
  go_upto_region 1 with (fail)
  have HA := Lib.hid (Blk.fresh w 28 (evC k a b c t))
  have HB := Lib.hid ((Below.refl w.heap.size w).alloc (Nat.le_refl _) (.cells (evC k a b c t) 28))
  generalize w.alloc (.cells (evC k a b c t) 28) = w0 at HA HB ⊢
  cases Rw5.row HA.out
  go_wp2_with fail
  refine (pack_blk (partsE k a b c n) _ _ _ _ _ _ _ _ (Blk.fresh _ _ _) rfl rfl (by simp) HV.out HP.out).mono ?_
  rintro e w1 ⟨rfl, hb1⟩
  have HB1 := Lib.hid ((HB.out.alloc HB.out.size _).trans (hb1.mono (by have := HB.out.size; simp; omega)))
  clear hb1 q1 q2 q3 q4 q5
  go_wp2
  go_ret
  exact ⟨rfl, HB1.out⟩

set_option maxRecDepth 100000 in
set_option maxHeartbeats 1000000 in
/-- fewer than six bytes -/
theorem first_short (s : ByteArray) (w : World) (hs : s.size ≤ maxLen) (hsp : splitR s widthsE = ([], ⟨#[]⟩, 1)) :
    Calls Tryd.prog 26 #[.string s] w fun e w' => e = .returned (.tuple #[.agg zeroC, .string ⟨#[]⟩, .int .i64 1]) ∧ Below w.heap.size w w' := by
  have HS := Lib.hid hsp; clear hsp
  go_enter Tryd.func26, Tryd.ntmps26
  go_wp2_with fail
  refine (split_blk s widthsE _ _ 0 _ _ _ _ (fresh_second _ _ _ _) rfl HS.out rfl rfl hs (by simp)).mono ?_
  rintro e w1 ⟨A', c', rfl, hr, hb⟩
  have hbk := ((Blk.fresh w 28 zeroC).alloc _).below hb (by simp; omega)
  have HB := Lib.hid ((((Below.refl w.heap.size w).alloc (Nat.le_refl _) _).alloc (by simp) _).trans (hb.mono (by simp; omega)))
  have HK := Lib.hid hbk
  cases Rw5.row hbk
  clear hb hbk hr
  go_wp2
  (try simp only [Exit.inBlock, Exit.then]); refine bodyPost_ret (results_row3 rfl _ _ w.heap.size 28 _ (0, 0) _ rfl (Rw5.blk_set HK.out _ _ _ _ _) Tryd.underlying28 rfl info_ev) rfl ?_
  exact ⟨rfl, Rw5.below_set HB.out (Nat.le_refl _) _ _ _ _ _⟩
set_option maxRecDepth 100000 in
set_option maxHeartbeats 1000000 in
/-- fewer bytes behind the head than it says -/
theorem first_few (s r : ByteArray) (k a b c n : Nat) (w : World) (hs : s.size ≤ maxLen) (hr2 : r.size < n) (hn : n < 65536) (hsp : splitR s widthsE = ([k, a, b, c, n], r, 0)) :
    Calls Tryd.prog 26 #[.string s] w fun e w' => e = .returned (.tuple #[.agg zeroC, .string ⟨#[]⟩, .int .i64 1]) ∧ Below w.heap.size w w' := by
  have HS := Lib.hid hsp; clear hsp
  have q1 : IntKind.i64.wrap (n : Int) = (n : Int) := IntWalk.i64_in _ ⟨by omega, by omega⟩
  have q2 : decide ((r.size : Int) < (n : Int)) = true := by simp; omega
  have q3 : decide (r.size < n) = true := by simp; omega
  go_enter Tryd.func26, Tryd.ntmps26
  go_wp2_with fail
  refine (split_blk s widthsE _ _ 5 _ _ _ _ (fresh_second _ _ _ _) rfl HS.out rfl rfl hs (by simp)).mono ?_
  rintro e w1 ⟨A', c', rfl, hr, hb⟩
  have hbk := ((Blk.fresh w 28 zeroC).alloc _).below hb (by simp; omega)
  have HB := Lib.hid ((((Below.refl w.heap.size w).alloc (Nat.le_refl _) _).alloc (by simp) _).trans (hb.mono (by simp; omega)))
  have HK := Lib.hid hbk
  cases Rw5.row hbk
  obtain ⟨ad, rfl, _, hcell⟩ := hr (by simp [nums])
  have e4 := hcell 4 _ rfl
  simp [Addr.add] at e4
  clear hb hbk hr hcell hr2
  go_wp2
  (try simp only [Exit.inBlock, Exit.then]); refine bodyPost_ret (results_row3 rfl _ _ w.heap.size 28 _ (0, 0) _ rfl (Rw5.blk_set HK.out _ _ _ _ _) Tryd.underlying28 rfl info_ev) rfl ?_
  exact ⟨rfl, Rw5.below_set HB.out (Nat.le_refl _) _ _ _ _ _⟩
set_option maxRecDepth 100000 in
set_option maxHeartbeats 1000000 in
/-- an event that is wrong -/
theorem first_wrong (s r t : ByteArray) (k a b c n f : Nat) (w : World) (hs : s.size ≤ maxLen) (hr2 : n ≤ r.size) (hk : k < 256) (ha : a < 256) (hb' : b < 256) (hc : c < 256) (hn : n < 65536) (hsp : splitR s widthsE = ([k, a, b, c, n], r, 0)) (ht : r.extract 0 n = t) (hf : faultE (k, a, b, c, t) = f) (hf0 : f ≠ 0) :
    Calls Tryd.prog 26 #[.string s] w fun e w' => e = .returned (.tuple #[.agg zeroC, .string ⟨#[]⟩, .int .i64 (f : Int)]) ∧ Below w.heap.size w w' := by
  have q0 : ((f : Int) != 0) = true := by simp; omega
  clear hf0
  have HS := Lib.hid hsp; clear hsp
  have HF := Lib.hid hf; clear hf
  have q1 : IntKind.i64.wrap (n : Int) = (n : Int) := IntWalk.i64_in _ ⟨by omega, by omega⟩
  have q2 : decide ((r.size : Int) < (n : Int)) = false := by simp; omega
  go_enter Tryd.func26, Tryd.ntmps26
  go_wp2_with fail
  refine (split_blk s widthsE _ _ 5 _ _ _ _ (fresh_second _ _ _ _) rfl HS.out rfl rfl hs (by simp)).mono ?_
  rintro e w1 ⟨A', c', rfl, hr, hb⟩
  have hbk := ((Blk.fresh w 28 zeroC).alloc _).below hb (by simp; omega)
  have HB := Lib.hid ((((Below.refl w.heap.size w).alloc (Nat.le_refl _) _).alloc (by simp) _).trans (hb.mono (by simp; omega)))
  have HK := Lib.hid hbk
  obtain ⟨c0, c1, c2, c3, c4, z0, z1, z2, z3, z4⟩ := Rw5.row hbk
  obtain ⟨ad, rfl, _, hcell⟩ := hr (by simp [nums])
  have e0 := hcell 0 _ rfl
  have e1 := hcell 1 _ rfl
  have e2 := hcell 2 _ rfl
  have e3 := hcell 3 _ rfl
  have e4 := hcell 4 _ rfl
  simp [Addr.add] at e0 e1 e2 e3 e4
  clear hb hbk hr hcell
  unfold maxLen at hs
  go_wp2_with fail
  have w0 : IntKind.u8.wrap (k : Int) = (k : Int) := IntWalk.u8_in _ ⟨by omega, by omega⟩
  have w1' : IntKind.u8.wrap (a : Int) = (a : Int) := IntWalk.u8_in _ ⟨by omega, by omega⟩
  have w2 : IntKind.u8.wrap (b : Int) = (b : Int) := IntWalk.u8_in _ ⟨by omega, by omega⟩
  have w3 : IntKind.u8.wrap (c : Int) = (c : Int) := IntWalk.u8_in _ ⟨by omega, by omega⟩
  have hlo : w.heap.size < w1.heap.size := HK.out.lt
  have b1 : (0 : Int) ≤ (n : Int) := by omega
  have b2 : (n : Int) ≤ (r.size : Int) := by omega
  go_region_held3 (fun w' => w'.cell? ad = some (.int .u64 (k : Int)) ∧ w'.cell? ⟨ad.block, ad.off + 1, none⟩ = some (.int .u64 (a : Int)) ∧ w'.cell? ⟨ad.block, ad.off + 2, none⟩ = some (.int .u64 (b : Int)) ∧ w'.cell? ⟨ad.block, ad.off + 3, none⟩ = some (.int .u64 (c : Int))) (first | exact ⟨e0, e1, e2, e3⟩ | go_keep)
    (first | fail)
  rename_i hHeld
  clear hHeld
  have HX := Lib.hid (Blk.fresh w1 28 (evC k a b c t)).drew
  have HK2 := Lib.hid (HK.out.alloc (.cells (evC k a b c t) 28)).drew
  have HB2 := Lib.hid (HB.out.alloc HB.out.size (.cells (evC k a b c t) 28)).drew
  clear c0 c1 c2 c3 c4 z0 z1 z2 z3 z4 e0 e1 e2 e3 e4 w0 w1' w2 w3
  generalize (w1.alloc (.cells (evC k a b c t) 28)).drew = wB at *
  obtain ⟨c0, c1, c2, c3, c4, z0, z1, z2, z3, z4⟩ := Rw5.row HX.out
  go_wp2_with fail
  refine (fault_at k a b c t _ HF.out).mono ?_
  rintro e w2 ⟨rfl, hb2⟩
  have HX2 := Lib.hid (HX.out.below hb2 HX.out.lt)
  have HK3 := Lib.hid (HK2.out.below hb2 HK2.out.lt)
  have HB3 := Lib.hid (HB2.out.trans (hb2.mono HB2.out.size))
  clear c0 c1 c2 c3 c4 z0 z1 z2 z3 z4 hb2
  cases Rw5.row HX2.out
  cases Rw5.row HK3.out
  go_wp2
  (try simp only [Exit.inBlock, Exit.then]); refine bodyPost_ret (results_row3 rfl _ _ w.heap.size 28 _ (0, 0) _ rfl (Rw5.blk_set HK3.out _ _ _ _ _) Tryd.underlying28 rfl info_ev) rfl ?_
  exact ⟨rfl, Rw5.below_set HB3.out (Nat.le_refl _) _ _ _ _ _⟩
set_option maxRecDepth 100000 in
set_option maxHeartbeats 1000000 in
/-- an event, and what is behind it -/
theorem first_ok (s r t u : ByteArray) (k a b c n : Nat) (w : World) (hs : s.size ≤ maxLen) (hr2 : n ≤ r.size) (hk : k < 256) (ha : a < 256) (hb' : b < 256) (hc : c < 256) (hn : n < 65536) (hsp : splitR s widthsE = ([k, a, b, c, n], r, 0)) (ht : r.extract 0 n = t) (hu : r.extract n r.size = u) (hf : faultE (k, a, b, c, t) = 0) :
    Calls Tryd.prog 26 #[.string s] w fun e w' => e = .returned (.tuple #[evV k a b c t, .string u, .int .i64 0]) ∧ Below w.heap.size w w' := by
  have HS := Lib.hid hsp; clear hsp
  have HF := Lib.hid hf; clear hf
  have q1 : IntKind.i64.wrap (n : Int) = (n : Int) := IntWalk.i64_in _ ⟨by omega, by omega⟩
  have q2 : decide ((r.size : Int) < (n : Int)) = false := by simp; omega
  go_enter Tryd.func26, Tryd.ntmps26
  go_wp2_with fail
  refine (split_blk s widthsE _ _ 5 _ _ _ _ (fresh_second _ _ _ _) rfl HS.out rfl rfl hs (by simp)).mono ?_
  rintro e w1 ⟨A', c', rfl, hr, hb⟩
  have hbk := ((Blk.fresh w 28 zeroC).alloc _).below hb (by simp; omega)
  have HB := Lib.hid ((((Below.refl w.heap.size w).alloc (Nat.le_refl _) _).alloc (by simp) _).trans (hb.mono (by simp; omega)))
  have HK := Lib.hid hbk
  obtain ⟨c0, c1, c2, c3, c4, z0, z1, z2, z3, z4⟩ := Rw5.row hbk
  obtain ⟨ad, rfl, _, hcell⟩ := hr (by simp [nums])
  have e0 := hcell 0 _ rfl
  have e1 := hcell 1 _ rfl
  have e2 := hcell 2 _ rfl
  have e3 := hcell 3 _ rfl
  have e4 := hcell 4 _ rfl
  simp [Addr.add] at e0 e1 e2 e3 e4
  clear hb hbk hr hcell
  unfold maxLen at hs
  go_wp2_with fail
  have w0 : IntKind.u8.wrap (k : Int) = (k : Int) := IntWalk.u8_in _ ⟨by omega, by omega⟩
  have w1' : IntKind.u8.wrap (a : Int) = (a : Int) := IntWalk.u8_in _ ⟨by omega, by omega⟩
  have w2 : IntKind.u8.wrap (b : Int) = (b : Int) := IntWalk.u8_in _ ⟨by omega, by omega⟩
  have w3 : IntKind.u8.wrap (c : Int) = (c : Int) := IntWalk.u8_in _ ⟨by omega, by omega⟩
  have hlo : w.heap.size < w1.heap.size := HK.out.lt
  have b1 : (0 : Int) ≤ (n : Int) := by omega
  have b2 : (n : Int) ≤ (r.size : Int) := by omega
  go_region_held3 (fun w' => w'.cell? ad = some (.int .u64 (k : Int)) ∧ w'.cell? ⟨ad.block, ad.off + 1, none⟩ = some (.int .u64 (a : Int)) ∧ w'.cell? ⟨ad.block, ad.off + 2, none⟩ = some (.int .u64 (b : Int)) ∧ w'.cell? ⟨ad.block, ad.off + 3, none⟩ = some (.int .u64 (c : Int))) (first | exact ⟨e0, e1, e2, e3⟩ | go_keep)
    (first | fail)
  rename_i hHeld
  clear hHeld
  have HX := Lib.hid (Blk.fresh w1 28 (evC k a b c t)).drew
  have HK2 := Lib.hid (HK.out.alloc (.cells (evC k a b c t) 28)).drew
  have HB2 := Lib.hid (HB.out.alloc HB.out.size (.cells (evC k a b c t) 28)).drew
  clear c0 c1 c2 c3 c4 z0 z1 z2 z3 z4 e0 e1 e2 e3 e4 w0 w1' w2 w3
  generalize (w1.alloc (.cells (evC k a b c t) 28)).drew = wB at *
  obtain ⟨c0, c1, c2, c3, c4, z0, z1, z2, z3, z4⟩ := Rw5.row HX.out
  go_wp2_with fail
  refine (fault_at k a b c t _ HF.out).mono ?_
  rintro e w2 ⟨rfl, hb2⟩
  have HX2 := Lib.hid (HX.out.below hb2 HX.out.lt)
  have HK3 := Lib.hid (HK2.out.below hb2 HK2.out.lt)
  have HB3 := Lib.hid (HB2.out.trans (hb2.mono HB2.out.size))
  clear c0 c1 c2 c3 c4 z0 z1 z2 z3 z4 hb2
  cases Rw5.row HX2.out
  cases Rw5.row HK3.out
  have b1 : (0 : Int) ≤ (n : Int) := by omega
  have b2 : (n : Int) ≤ (r.size : Int) := by omega
  go_wp2_with fail
  go_region
  go_wp2
  (try simp only [Exit.inBlock, Exit.then]); refine bodyPost_ret (results_row3 rfl _ _ w.heap.size 28 _ (0, 0) _ rfl (Rw5.blk_set HK3.out _ _ _ _ _).drew Tryd.underlying28 rfl info_ev) rfl ?_
  exact ⟨rfl, (Rw5.below_set HB3.out (Nat.le_refl _) _ _ _ _ _).drew⟩
end Go.Proofs.YtphndajaehofoaaDoor.Ev
