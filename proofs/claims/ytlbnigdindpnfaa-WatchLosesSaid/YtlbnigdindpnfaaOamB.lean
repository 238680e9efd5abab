/-
  Contract of oam's Open.
  Contract of oam's Open: where nothing is wrong; and its answer is openO's.
  Contract of the document's Open.
  The statements OamOpens and OamCloses: their walks.
-/
import Derived.Test.YtlbnigdindpnfaaOamA
namespace Go.Proofs.Ytlbnigdindpnfaa.Oa
open Go.RowKit Go.Proofs.Ytlbnigdindpnfaa.Bt Go.Proofs.Ytlbnigdindpnfaa.Mm Go.Proofs.Ytlbnigdindpnfaa.Fl Go.Proofs.Ytlbnigdindpnfaa.Lw Go.Proofs.Ytlbnigdindpnfaa.Tg

theorem results_cell_tmp2 {fn : Func} {p u v : Tmp} {ty : TypeId} (h : fn.results = #[.cell p ty, .tmp u, .tmp v]) (tmps : Array Value) (P : Program) (w : World) :
    (results fn tmps).run P w = ((asAddr (tmps.getD p undef)).run P w).andThen fun a w₁ => ((loadVar ty a).run P w₁).andThen fun x w₂ => .ok (.tuple #[x, tmps.getD u undef, tmps.getD v undef]) w₂ := by
  simp only [results, h]
  simp [Sem.run_bind, Result.andThen]
theorem results_row3 {P : Program} {fn : Func} {p u v : Tmp} {ty : TypeId} (h : fn.results = #[.cell p ty, .tmp u, .tmp v]) (tmps : Array Value) (w : World) (g : Nat) (t : TypeId) (cs : Array Value) (fr : Nat × Nat) (d : TypeDesc)
    (hp : tmps.getD p undef = .pointer (some ⟨g, 0, none⟩)) (hg : w.heap[g]? = some (.cells cs t fr))
    (hu : P.underlying ty = some d) (hd : (match d with | .struct _ | .array _ _ => true | _ => false) = true) (hi : (P.info? ty).map (·.size) = some cs.size) :
    (results fn tmps).run P w = .ok (.tuple #[.agg cs, tmps.getD u undef, tmps.getD v undef]) w := by
  rw [results_cell_tmp2 h, hp]
  simp [asAddr, run_loadVar_row w g t ty cs fr d hg hu hd hi, Result.andThen]
theorem info_head : (Try.prog.info? 62).map (·.size) = some 5 := by kernel_rfl
theorem info_rhead : (Try.prog.info? 74).map (·.size) = some 5 := by kernel_rfl
abbrev zeroHC : Array Value := #[.int .u8 0, .int .u8 0, .int .u8 0, .int .u8 0, .int .u8 0]

set_option maxRecDepth 100000 in
set_option maxHeartbeats 1000000 in
theorem open_short (s : ByteArray) (w : World) (hs : s.size ≤ maxLen) (hsp : splitR s widthsH = ([], ⟨#[]⟩, 1)) :
    Calls Try.prog 21 #[.string s] w fun e w' => e = .returned (.tuple #[hdV 0 0 0 0 0, .string ⟨#[]⟩, .int .i64 1]) ∧ Below w.heap.size w w' := by
  have HS := Lib.hid hsp; clear hsp
  go_enter Try.func21, Try.ntmps21
  go_wp2_with fail
  refine (split_blk s widthsH _ _ 0 _ _ _ _ (fresh_second _ _ _ _) rfl HS.out rfl rfl hs (by simp)).mono ?_
  rintro e w1 ⟨A', c', rfl, hr, hb⟩
  have hbk := ((Blk.fresh w 62 zeroHC).alloc _).below hb (by simp; omega)
  have HB := Lib.hid ((((Below.refl w.heap.size w).alloc (Nat.le_refl _) _).alloc (by simp) _).trans (hb.mono (by simp; omega)))
  obtain ⟨c0, c1, c2, c3, c4, z0, z1, z2, z3, z4⟩ := Rw5.row hbk
  have HK := Lib.hid hbk
  clear hb hbk hr
  go_wp2
  (try simp only [Exit.inBlock, Exit.then]); refine bodyPost_ret (results_row3 rfl _ _ w.heap.size 62 _ (0, 0) _ rfl (Rw5.blk_set HK.out _ _ _ _ _) Try.underlying62 rfl info_head) rfl ?_
  exact ⟨rfl, Rw5.below_set HB.out (Nat.le_refl _) _ _ _ _ _⟩
set_option maxRecDepth 100000 in
set_option maxHeartbeats 1000000 in
theorem open_few (s r : ByteArray) (l v c f o : Nat) (w : World) (hs : s.size ≤ maxLen) (hr2 : r.size ≤ o) (ho : o < 256) (hsp : splitR s widthsH = ([l, v, c, f, o], r, 0)) :
    Calls Try.prog 21 #[.string s] w fun e w' => e = .returned (.tuple #[hdV 0 0 0 0 0, .string ⟨#[]⟩, .int .i64 1]) ∧ Below w.heap.size w w' := by
  have HS := Lib.hid hsp; clear hsp
  have q1 : IntKind.i64.wrap (o : Int) = (o : Int) := IntWalk.i64_in _ ⟨by omega, by omega⟩
  have q2 : decide ((r.size : Int) ≤ (o : Int)) = true := by simp; omega
  go_enter Try.func21, Try.ntmps21
  go_wp2_with fail
  refine (split_blk s widthsH _ _ 5 _ _ _ _ (fresh_second _ _ _ _) rfl HS.out rfl rfl hs (by simp)).mono ?_
  rintro e w1 ⟨A', c', rfl, hr, hb⟩
  have hbk := ((Blk.fresh w 62 zeroHC).alloc _).below hb (by simp; omega)
  have HB := Lib.hid ((((Below.refl w.heap.size w).alloc (Nat.le_refl _) _).alloc (by simp) _).trans (hb.mono (by simp; omega)))
  obtain ⟨c0, c1, c2, c3, c4, z0, z1, z2, z3, z4⟩ := Rw5.row hbk
  have HK := Lib.hid hbk
  obtain ⟨ad, rfl, _, hcell⟩ := hr (by simp [nums])
  have e4 := hcell 4 _ rfl
  simp [Addr.add] at e4
  clear hb hbk hr hcell
  go_wp2
  (try simp only [Exit.inBlock, Exit.then]); refine bodyPost_ret (results_row3 rfl _ _ w.heap.size 62 _ (0, 0) _ rfl (Rw5.blk_set HK.out _ _ _ _ _) Try.underlying62 rfl info_head) rfl ?_
  exact ⟨rfl, Rw5.below_set HB.out (Nat.le_refl _) _ _ _ _ _⟩
set_option maxRecDepth 100000 in
set_option maxHeartbeats 1000000 in
theorem open_end (s r : ByteArray) (l v c f o : Nat) (w : World) (hs : s.size ≤ maxLen) (hr2 : o < r.size) (ho : o < 256) (hsp : splitR s widthsH = ([l, v, c, f, o], r, 0)) (b : Nat) (hb0 : (r[o]'hr2).toNat = b) (hbn : b ≠ 0) :
    Calls Try.prog 21 #[.string s] w fun e w' => e = .returned (.tuple #[hdV 0 0 0 0 0, .string ⟨#[]⟩, .int .i64 3]) ∧ Below w.heap.size w w' := by
  have HS := Lib.hid hsp; clear hsp
  have q1 : IntKind.i64.wrap (o : Int) = (o : Int) := IntWalk.i64_in _ ⟨by omega, by omega⟩
  have q2 : decide ((r.size : Int) ≤ (o : Int)) = false := by simp; omega
  have q3 : ((b : Int) != 0) = true := by simp; omega
  go_enter Try.func21, Try.ntmps21
  go_wp2_with fail
  refine (split_blk s widthsH _ _ 5 _ _ _ _ (fresh_second _ _ _ _) rfl HS.out rfl rfl hs (by simp)).mono ?_
  rintro e w1 ⟨A', c', rfl, hr, hb⟩
  have hbk := ((Blk.fresh w 62 zeroHC).alloc _).below hb (by simp; omega)
  have HB := Lib.hid ((((Below.refl w.heap.size w).alloc (Nat.le_refl _) _).alloc (by simp) _).trans (hb.mono (by simp; omega)))
  obtain ⟨c0, c1, c2, c3, c4, z0, z1, z2, z3, z4⟩ := Rw5.row hbk
  have HK := Lib.hid hbk
  obtain ⟨ad, rfl, _, hcell⟩ := hr (by simp [nums])
  have e4 := hcell 4 _ rfl
  simp [Addr.add] at e4
  clear hb hbk hr hcell hbn
  go_wp2
  (try simp only [Exit.inBlock, Exit.then]); refine bodyPost_ret (results_row3 rfl _ _ w.heap.size 62 _ (0, 0) _ rfl (Rw5.blk_set HK.out _ _ _ _ _) Try.underlying62 rfl info_head) rfl ?_
  exact ⟨rfl, Rw5.below_set HB.out (Nat.le_refl _) _ _ _ _ _⟩
end Go.Proofs.Ytlbnigdindpnfaa.Oa
namespace Go.Proofs.Ytlbnigdindpnfaa.Oa
open Go.RowKit Go.Proofs.Ytlbnigdindpnfaa.Bt Go.Proofs.Ytlbnigdindpnfaa.Mm Go.Proofs.Ytlbnigdindpnfaa.Fl Go.Proofs.Ytlbnigdindpnfaa.Lw Go.Proofs.Ytlbnigdindpnfaa.Tg

set_option maxRecDepth 100000 in
set_option maxHeartbeats 1000000 in
theorem open_ok (s r t : ByteArray) (l v c f o : Nat) (w : World) (hs : s.size ≤ maxLen) (hr2 : o < r.size) (hl : l < 256) (hv : v < 256) (hc : c < 256) (hf : f < 256) (ho : o < 256) (hsp : splitR s widthsH = ([l, v, c, f, o], r, 0)) (hb0 : (r[o]'hr2).toNat = 0) (ht : r.extract 0 o = t) :
    Calls Try.prog 21 #[.string s] w fun e w' => e = .returned (.tuple #[hdV l v c f o, .string t, .int .i64 0]) ∧ Below w.heap.size w w' := by
  have HS := Lib.hid hsp; clear hsp
  have q1 : IntKind.i64.wrap (o : Int) = (o : Int) := IntWalk.i64_in _ ⟨by omega, by omega⟩
  have q2 : decide ((r.size : Int) ≤ (o : Int)) = false := by simp; omega
  go_enter Try.func21, Try.ntmps21
  go_wp2_with fail
  refine (split_blk s widthsH _ _ 5 _ _ _ _ (fresh_second _ _ _ _) rfl HS.out rfl rfl hs (by simp)).mono ?_
  rintro e w1 ⟨A', c', rfl, hr, hb⟩
  have hbk := ((Blk.fresh w 62 zeroHC).alloc _).below hb (by simp; omega)
  have HB := Lib.hid ((((Below.refl w.heap.size w).alloc (Nat.le_refl _) _).alloc (by simp) _).trans (hb.mono (by simp; omega)))
  obtain ⟨c0, c1, c2, c3, c4, z0, z1, z2, z3, z4⟩ := Rw5.row hbk
  have HK := Lib.hid hbk
  obtain ⟨ad, rfl, _, hcell⟩ := hr (by simp [nums])
  have e0 := hcell 0 _ rfl
  have e1 := hcell 1 _ rfl
  have e2 := hcell 2 _ rfl
  have e3 := hcell 3 _ rfl
  have e4 := hcell 4 _ rfl
  simp [Addr.add] at e0 e1 e2 e3 e4
  clear hb hbk hr hcell
  unfold maxLen at hs
  go_wp2_with fail
  have w0 : IntKind.u8.wrap (l : Int) = (l : Int) := IntWalk.u8_in _ ⟨by omega, by omega⟩
  have w1' : IntKind.u8.wrap (v : Int) = (v : Int) := IntWalk.u8_in _ ⟨by omega, by omega⟩
  have w2 : IntKind.u8.wrap (c : Int) = (c : Int) := IntWalk.u8_in _ ⟨by omega, by omega⟩
  have w3 : IntKind.u8.wrap (f : Int) = (f : Int) := IntWalk.u8_in _ ⟨by omega, by omega⟩
  have w4 : IntKind.u8.wrap (o : Int) = (o : Int) := IntWalk.u8_in _ ⟨by omega, by omega⟩
  have hlo : w.heap.size < w1.heap.size := HK.out.lt
  go_region_held3 (fun w' => w'.cell? ad = some (.int .u64 (l : Int)) ∧ w'.cell? ⟨ad.block, ad.off + 1, none⟩ = some (.int .u64 (v : Int)) ∧ w'.cell? ⟨ad.block, ad.off + 2, none⟩ = some (.int .u64 (c : Int)) ∧ w'.cell? ⟨ad.block, ad.off + 3, none⟩ = some (.int .u64 (f : Int)) ∧ w'.cell? ⟨ad.block, ad.off + 4, none⟩ = some (.int .u64 (o : Int))) (first | exact ⟨e0, e1, e2, e3, e4⟩ | go_keep)
    (first | fail)
  rename_i hHeld
  clear hHeld
  have HX := Lib.hid (Blk.fresh w1 62 (hdC l v c f o)).drew
  have HK2 := Lib.hid (HK.out.alloc (.cells (hdC l v c f o) 62)).drew
  have HB2 := Lib.hid (HB.out.alloc HB.out.size (.cells (hdC l v c f o) 62)).drew
  clear c0 c1 c2 c3 c4 z0 z1 z2 z3 z4 e0 e1 e2 e3 e4 w0 w1' w2 w3 w4
  generalize (w1.alloc (.cells (hdC l v c f o) 62)).drew = wB at *
  obtain ⟨i0, i1, i2, i3, i4, _⟩ := Rw5.row HX.out
  obtain ⟨c0, c1, c2, c3, c4, z0, z1, z2, z3, z4⟩ := Rw5.row HK2.out
  have b1 : (0 : Int) ≤ (o : Int) := by omega
  have b2 : (o : Int) ≤ (r.size : Int) := by omega
  go_wp2_with fail
  go_region
  go_wp2
  (try simp only [Exit.inBlock, Exit.then]); refine bodyPost_ret (results_row3 rfl _ _ w.heap.size 62 _ (0, 0) _ rfl (Rw5.blk_set HK2.out _ _ _ _ _).drew Try.underlying62 rfl info_head) rfl ?_
  exact ⟨rfl, (Rw5.below_set HB2.out (Nat.le_refl _) _ _ _ _ _).drew⟩

theorem byte_lt (s : List UInt8) (i : Nat) : byteAt s i < 256 := UInt8.toNat_lt _
theorem head_small (s : List UInt8) : Small (headOf s) := ⟨by have := byte_lt s 0; show byteAt s 0 / 32 < 256; omega, by have := byte_lt s 0; show byteAt s 0 % 32 < 256; omega, byte_lt s 1, byte_lt s 2, byte_lt s 3⟩
/-- a byte behind the head -/
theorem byte_rest (s : ByteArray) (i : Nat) (h : i < (s.extract 4 s.size).size) : ((s.extract 4 s.size)[i]'h).toNat = byteAt s.data.toList (4 + i) := by
  have e : (s.extract 4 s.size).data.toList[i]? = s.data.toList[4 + i]? := by rw [extract_list, List.getElem?_drop]
  have e2 : ((s.extract 4 s.size)[i]'h) = (s.extract 4 s.size).data.toList[i]'(by rw [size_list]; exact h) := rfl
  unfold byteAt
  rw [e2, List.getD_eq_getElem?_getD, ← e, List.getElem?_eq_getElem (by rw [size_list]; exact h)]
  rfl
/-- a head as a value -/
abbrev valH (h : Hd) : Value := hdV h.level h.version h.code h.flags h.offset
theorem open_at {h : Hd} {c : List UInt8} {k : Nat} (s : ByteArray) (w : World) (ho : openO s.data.toList = (h, c, k)) (hs : s.size ≤ maxLen) :
    Calls Try.prog 21 #[.string s] w fun e w' => e = .returned (.tuple #[valH h, .string ⟨c.toArray⟩, .int .i64 (k : Int)]) ∧ Below w.heap.size w w' := by
  have hsl := size_list s
  unfold openO at ho
  rw [hsl] at ho
  by_cases h1 : s.size < 4
  · rw [if_pos (.inl h1)] at ho
    simp only [Prod.mk.injEq] at ho
    obtain ⟨rfl, rfl, rfl⟩ := ho
    exact open_short s w hs (split_head_short s h1)
  have hsp := split_head s (by omega)
  obtain ⟨b0, b1, b2, b3, b4⟩ := head_small s.data.toList
  have hrs : (s.extract 4 s.size).size = s.size - 4 := by simp
  have hoff : (headOf s.data.toList).offset = byteAt s.data.toList 3 := rfl
  by_cases h2 : s.size < 5 + byteAt s.data.toList 3
  · rw [if_pos (.inr h2)] at ho
    simp only [Prod.mk.injEq] at ho
    obtain ⟨rfl, rfl, rfl⟩ := ho
    exact open_few s _ _ _ _ _ _ w hs (by omega) b4 hsp
  rw [if_neg (by omega)] at ho
  have hlt : (headOf s.data.toList).offset < (s.extract 4 s.size).size := by omega
  have hby := byte_rest s _ hlt
  by_cases h3 : byteAt s.data.toList (4 + byteAt s.data.toList 3) = 0
  · rw [if_neg (fun hn => hn h3)] at ho
    simp only [Prod.mk.injEq] at ho
    obtain ⟨rfl, rfl, rfl⟩ := ho
    refine open_ok s _ _ _ _ _ _ _ w hs hlt b0 b1 b2 b3 b4 hsp (hby.trans h3) ?_
    apply ba_ext
    rw [ByteArray.data_extract, Array.toList_extract, List.extract_eq_take_drop, extract_list]
    simp [hoff]
  · rw [if_pos h3] at ho
    simp only [Prod.mk.injEq] at ho
    obtain ⟨rfl, rfl, rfl⟩ := ho
    exact open_end s _ _ _ _ _ _ w hs hlt b4 hsp _ hby h3
end Go.Proofs.Ytlbnigdindpnfaa.Oa
namespace Go.Proofs.Ytlbnigdindpnfaa.Oa
open Go.RowKit Go.Proofs.Ytlbnigdindpnfaa.Bt Go.Proofs.Ytlbnigdindpnfaa.Mm Go.Proofs.Ytlbnigdindpnfaa.Fl Go.Proofs.Ytlbnigdindpnfaa.Lw Go.Proofs.Ytlbnigdindpnfaa.Tg

set_option maxRecDepth 100000 in
set_option maxHeartbeats 1000000 in
theorem ropen_short (s : ByteArray) (w : World) (h : s.size < 4) :
    Calls Try.prog 31 #[.string s] w fun e w' => e = .returned (.tuple #[hdV 0 0 0 0 0, .string ⟨#[]⟩, .int .i64 1]) ∧ Below w.heap.size w w' := by
  have h1 : decide ((s.size : Int) < 4) = true := by simp; omega
  go_enter Try.func31, Try.ntmps31
  go_wp2
  (try simp only [Exit.inBlock, Exit.then]); refine bodyPost_ret (results_row3 rfl _ _ w.heap.size 74 _ (0, 0) _ rfl (Blk.fresh _ _ _) Try.underlying74 rfl info_rhead) rfl ?_
  exact ⟨rfl, (Below.refl w.heap.size w).alloc (Nat.le_refl _) _⟩
set_option maxRecDepth 100000 in
set_option maxHeartbeats 1000000 in
theorem ropen_few (s : ByteArray) (n : Nat) (w : World) (h : 4 ≤ s.size) (h2 : s.size < 5 + n) (hn : (s[3]).toNat = n) (hn2 : n < 256) :
    Calls Try.prog 31 #[.string s] w fun e w' => e = .returned (.tuple #[hdV 0 0 0 0 0, .string ⟨#[]⟩, .int .i64 1]) ∧ Below w.heap.size w w' := by
  have h1 : decide ((s.size : Int) < 4) = false := by simp; omega
  have q1 : IntKind.i64.wrap (n : Int) = (n : Int) := IntWalk.i64_in _ ⟨by omega, by omega⟩
  have q2 : IntKind.i64.wrap (5 + (n : Int)) = 5 + (n : Int) := IntWalk.i64_in _ ⟨by omega, by omega⟩
  have h3 : decide ((s.size : Int) < 5 + (n : Int)) = true := by simp; omega
  go_enter Try.func31, Try.ntmps31
  go_wp2
  (try simp only [Exit.inBlock, Exit.then]); refine bodyPost_ret (results_row3 rfl _ _ w.heap.size 74 _ (0, 0) _ rfl (Blk.fresh _ _ _) Try.underlying74 rfl info_rhead) rfl ?_
  exact ⟨rfl, (Below.refl w.heap.size w).alloc (Nat.le_refl _) _⟩
set_option maxRecDepth 100000 in
set_option maxHeartbeats 1000000 in
theorem ropen_end (s : ByteArray) (n m b : Nat) (w : World) (h : 4 ≤ s.size) (h2 : m < s.size) (hn : (s[3]).toNat = n) (hn2 : n < 256) (hm : 4 + n = m) (hb : (s[m]).toNat = b) (hb0 : b ≠ 0) :
    Calls Try.prog 31 #[.string s] w fun e w' => e = .returned (.tuple #[hdV 0 0 0 0 0, .string ⟨#[]⟩, .int .i64 3]) ∧ Below w.heap.size w w' := by
  have h1 : decide ((s.size : Int) < 4) = false := by simp; omega
  have q1 : IntKind.i64.wrap (n : Int) = (n : Int) := IntWalk.i64_in _ ⟨by omega, by omega⟩
  have q2 : IntKind.i64.wrap (5 + (n : Int)) = 5 + (n : Int) := IntWalk.i64_in _ ⟨by omega, by omega⟩
  have h3 : decide ((s.size : Int) < 5 + (n : Int)) = false := by simp; omega
  have hm' : 4 + (n : Int) = (m : Int) := by omega
  have q3 : IntKind.i64.wrap (m : Int) = (m : Int) := IntWalk.i64_in _ ⟨by omega, by omega⟩
  have q4 : ((b : Int) != 0) = true := by simp; omega
  have m1 : (0 : Int) ≤ (m : Int) := by omega
  have m2 : (m : Int) < (s.size : Int) := by omega
  clear hb0
  go_enter Try.func31, Try.ntmps31
  go_wp2
  (try simp only [Exit.inBlock, Exit.then]); refine bodyPost_ret (results_row3 rfl _ _ w.heap.size 74 _ (0, 0) _ rfl (Blk.fresh _ _ _) Try.underlying74 rfl info_rhead) rfl ?_
  exact ⟨rfl, (Below.refl w.heap.size w).alloc (Nat.le_refl _) _⟩
set_option maxRecDepth 100000 in
set_option maxHeartbeats 1000000 in
theorem ropen_ok (s t : ByteArray) (a l v c f n m : Nat) (w : World) (h : 4 ≤ s.size) (h2 : m < s.size) (ha : (s[0]).toNat = a) (hc : (s[1]).toNat = c) (hf : (s[2]).toNat = f) (hn : (s[3]).toNat = n) (ha2 : a < 256) (hn2 : n < 256) (hm : 4 + n = m) (hb : (s[m]).toNat = 0) (hl : a / 32 = l) (hv : a % 32 = v) (ht : s.extract 4 m = t) :
    Calls Try.prog 31 #[.string s] w fun e w' => e = .returned (.tuple #[hdV l v c f n, .string t, .int .i64 0]) ∧ Below w.heap.size w w' := by
  have h1 : decide ((s.size : Int) < 4) = false := by simp; omega
  have q1 : IntKind.i64.wrap (n : Int) = (n : Int) := IntWalk.i64_in _ ⟨by omega, by omega⟩
  have q2 : IntKind.i64.wrap (5 + (n : Int)) = 5 + (n : Int) := IntWalk.i64_in _ ⟨by omega, by omega⟩
  have h3 : decide ((s.size : Int) < 5 + (n : Int)) = false := by simp; omega
  have hm' : 4 + (n : Int) = (m : Int) := by omega
  have q3 : IntKind.i64.wrap (m : Int) = (m : Int) := IntWalk.i64_in _ ⟨by omega, by omega⟩
  have m1 : (4 : Int) ≤ (m : Int) := by omega
  have m0 : (0 : Int) ≤ (m : Int) := by omega
  have m2 : (m : Int) < (s.size : Int) := by omega
  have m3 : (m : Int) ≤ (s.size : Int) := by omega
  have t1 : (a : Int).tdiv 32 = (l : Int) := by rw [Int.tdiv_eq_ediv_of_nonneg (by omega)]; omega
  have t2 : (a : Int).tmod 32 = (v : Int) := by rw [Int.tmod_eq_emod_of_nonneg (by omega)]; omega
  have w0 : IntKind.u8.wrap (l : Int) = (l : Int) := IntWalk.u8_in _ ⟨by omega, by omega⟩
  have w1 : IntKind.u8.wrap (v : Int) = (v : Int) := IntWalk.u8_in _ ⟨by omega, by omega⟩
  clear hl hv
  go_enter Try.func31, Try.ntmps31
  go_wp2_with fail
  have HK := Lib.hid (Blk.fresh w 74 zeroHC)
  have HB := Lib.hid ((Below.refl w.heap.size w).alloc (Nat.le_refl _) (.cells zeroHC 74))
  generalize (w.alloc (.cells zeroHC 74)) = wB at *
  obtain ⟨c0, c1, c2, c3, c4, z0, z1, z2, z3, z4⟩ := Rw5.row HK.out
  go_region
  go_wp2
  (try simp only [Exit.inBlock, Exit.then]); refine bodyPost_ret (results_row3 rfl _ _ w.heap.size 74 _ (0, 0) _ rfl (Rw5.blk_set HK.out _ _ _ _ _).drew Try.underlying74 rfl info_rhead) rfl ?_
  exact ⟨rfl, (Rw5.below_set HB.out (Nat.le_refl _) _ _ _ _ _).drew⟩
theorem byte_idx (s : ByteArray) (i : Nat) (h : i < s.size) : (s[i]'h).toNat = byteAt s.data.toList i := by
  have e2 : (s[i]'h) = s.data.toList[i]'(by rw [size_list]; exact h) := rfl
  unfold byteAt
  rw [e2, List.getD_eq_getElem?_getD, List.getElem?_eq_getElem (by rw [size_list]; exact h)]
  rfl
theorem ropen_at {h : Hd} {c : List UInt8} {k : Nat} (s : ByteArray) (w : World) (ho : openO s.data.toList = (h, c, k)) :
    Calls Try.prog 31 #[.string s] w fun e w' => e = .returned (.tuple #[valH h, .string ⟨c.toArray⟩, .int .i64 (k : Int)]) ∧ Below w.heap.size w w' := by
  have hsl := size_list s
  unfold openO at ho
  rw [hsl] at ho
  by_cases h1 : s.size < 4
  · rw [if_pos (.inl h1)] at ho
    simp only [Prod.mk.injEq] at ho
    obtain ⟨rfl, rfl, rfl⟩ := ho
    exact ropen_short s w h1
  have g3 := byte_lt s.data.toList 3
  by_cases h2 : s.size < 5 + byteAt s.data.toList 3
  · rw [if_pos (.inr h2)] at ho
    simp only [Prod.mk.injEq] at ho
    obtain ⟨rfl, rfl, rfl⟩ := ho
    exact ropen_few s _ w (by omega) h2 (byte_idx s 3 (by omega)) g3
  rw [if_neg (by omega)] at ho
  by_cases h3 : byteAt s.data.toList (4 + byteAt s.data.toList 3) = 0
  · rw [if_neg (fun hn => hn h3)] at ho
    simp only [Prod.mk.injEq] at ho
    obtain ⟨rfl, rfl, rfl⟩ := ho
    have hoff : (headOf s.data.toList).offset = byteAt s.data.toList 3 := rfl
    refine ropen_ok s _ _ _ _ _ _ _ _ w (by omega) (by omega) (byte_idx s 0 (by omega)) (byte_idx s 1 (by omega)) (byte_idx s 2 (by omega)) (byte_idx s 3 (by omega)) (byte_lt _ _) g3 rfl ((byte_idx s _ (by omega)).trans h3) rfl rfl ?_
    apply ba_ext
    rw [ByteArray.data_extract, Array.toList_extract, List.extract_eq_take_drop]
    simp [hoff]
  · rw [if_pos h3] at ho
    simp only [Prod.mk.injEq] at ho
    obtain ⟨rfl, rfl, rfl⟩ := ho
    exact ropen_end s _ _ _ w (by omega) (by omega) (byte_idx s 3 (by omega)) g3 rfl (byte_idx s _ (by omega)) h3
end Go.Proofs.Ytlbnigdindpnfaa.Oa
namespace Go.Proofs.Ytlbnigdindpnfaa.Oa
open Go.RowKit Go.Proofs.Ytlbnigdindpnfaa.Bt Go.Proofs.Ytlbnigdindpnfaa.Mm Go.Proofs.Ytlbnigdindpnfaa.Fl Go.Proofs.Ytlbnigdindpnfaa.Lw Go.Proofs.Ytlbnigdindpnfaa.Tg

end Go.Proofs.Ytlbnigdindpnfaa.Oa
