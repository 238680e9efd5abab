/-
  Contracts of ccm's small functions: what is wrong, a group's text; the document's.
-/
import Derived.Test.YtnapbmdkaldncaaCcm
import Derived.Test.YtnapbmdkaldncaaRpA
import Derived.Test.YtnapbmdkaldncaaRgK
import Derived.Test.YtnapbmdkaldncaaOamB
import Derived.Laws.CopyRow
namespace Go.Proofs.Ytnapbmdkaldncaa.Cc
open Go.RowKit Go.Proofs.Ytnapbmdkaldncaa.Bt Go.Proofs.Ytnapbmdkaldncaa.Mm Go.Proofs.Ytnapbmdkaldncaa.Fl Go.Proofs.Ytnapbmdkaldncaa.Lw Go.Proofs.Ytnapbmdkaldncaa.Hx Go.Proofs.Ytnapbmdkaldncaa.Mc Go.Proofs.Ytnapbmdkaldncaa.Tg Go.Proofs.Ytnapbmdkaldncaa.Oa Go.Proofs.Ytnapbmdkaldncaa.Rp

/-- a message as a value, and its cells -/
abbrev cmV (b : Bool) (p c e : Nat) (g : ByteArray) : Value := .agg #[.bool b, .int .u8 (p : Int), .int .u32 (c : Int), .int .u16 (e : Int), .string g]
abbrev cmC (b : Bool) (p c e : Nat) (g : ByteArray) : Array Value := #[.bool b, .int .u8 (p : Int), .int .u32 (c : Int), .int .u16 (e : Int), .string g]
theorem lv_any (b : Bool) (w : World) : Calls Try.prog 40 #[.bool b] w fun e w' => e = .returned (.int .u64 (bitN b 1 : Nat)) ∧ w = w' := by
  cases b
  · go_enter Try.func40, Try.ntmps40
    go_wp2
    go_ret
    exact ⟨rfl, rfl⟩
  · go_enter Try.func40, Try.ntmps40
    go_wp2
    go_ret
    exact ⟨rfl, rfl⟩
theorem lt_t {a : Nat} {b : Int} (h : (a : Int) < b) : decide ((a : Int) < b) = true := by simpa using h
theorem lt_f {a : Nat} {b : Int} (h : ¬ (a : Int) < b) : decide ((a : Int) < b) = false := by simpa using h

/-- what is wrong with a message, at a level -/
def wrongC (m : Cm) (l : Nat) : Nat := if badC m l then 4 else if m.group.length ≠ 48 then 3 else 0
theorem wrongC_bad {b : Bool} {p c e l : Nat} {g : List UInt8} (h : 7 < l ∨ p = 0 ∨ 7 < p ∨ e = 0 ∨ 8191 < e) : wrongC ⟨b, p, c, e, g⟩ l = 4 := if_pos h
theorem wrongC_good {b : Bool} {p c e l : Nat} {g : ByteArray} (h : ¬ (7 < l ∨ p = 0 ∨ 7 < p ∨ e = 0 ∨ 8191 < e)) : wrongC ⟨b, p, c, e, g.data.toList⟩ l = if g.size ≠ 48 then 3 else 0 := by
  have h2 : wrongC ⟨b, p, c, e, g.data.toList⟩ l = if g.data.toList.length ≠ 48 then 3 else 0 := if_neg h
  rw [h2, size_list]
set_option maxHeartbeats 1000000 in
theorem wrong_any (b : Bool) (p c e : Nat) (g : ByteArray) (l : Nat) (w : World) :
    Calls Try.prog 39 #[cmV b p c e g, .int .u8 (l : Int)] w fun x w' => x = .returned (.int .i64 (wrongC ⟨b, p, c, e, g.data.toList⟩ l : Nat)) ∧ Below w.heap.size w w' := by
  have HB := Lib.hid ((Below.refl w.heap.size w).alloc (Nat.le_refl _) (.cells (cmC b p c e g) 46))
  by_cases h1 : 7 < l
  · rw [wrongC_bad (.inl h1)]
    have q1 := gt_t (a := l) (b := 7) (by omega)
    clear h1
    go_enter Try.func39, Try.ntmps39
    go_wp2
    go_ret
    exact ⟨rfl, HB.out⟩
  have q1 := gt_f (a := l) (b := 7) (by omega)
  by_cases h2 : p = 0
  · rw [wrongC_bad (.inr (.inl h2))]
    have q2 := lt_t (a := p) (b := 1) (by omega)
    clear h1 h2
    go_enter Try.func39, Try.ntmps39
    go_wp2
    go_ret
    exact ⟨rfl, HB.out⟩
  have q2 := lt_f (a := p) (b := 1) (by omega)
  by_cases h3 : 7 < p
  · rw [wrongC_bad (.inr (.inr (.inl h3)))]
    have q3 := gt_t (a := p) (b := 7) (by omega)
    clear h1 h2 h3
    go_enter Try.func39, Try.ntmps39
    go_wp2
    go_ret
    exact ⟨rfl, HB.out⟩
  have q3 := gt_f (a := p) (b := 7) (by omega)
  by_cases h4 : e = 0
  · rw [wrongC_bad (.inr (.inr (.inr (.inl h4))))]
    have q4 := lt_t (a := e) (b := 1) (by omega)
    clear h1 h2 h3 h4
    go_enter Try.func39, Try.ntmps39
    go_wp2
    go_ret
    exact ⟨rfl, HB.out⟩
  have q4 := lt_f (a := e) (b := 1) (by omega)
  by_cases h5 : 8191 < e
  · rw [wrongC_bad (.inr (.inr (.inr (.inr h5))))]
    have q5 := gt_t (a := e) (b := 8191) (by omega)
    clear h1 h2 h3 h4 h5
    go_enter Try.func39, Try.ntmps39
    go_wp2
    go_ret
    exact ⟨rfl, HB.out⟩
  have q5 := gt_f (a := e) (b := 8191) (by omega)
  rw [wrongC_good (by omega)]
  by_cases h6 : g.size = 48
  · rw [if_neg (by simpa using h6)]
    have q6 : ((g.size : Int) != 48) = false := by rw [h6]; rfl
    clear h1 h2 h3 h4 h5 h6
    go_enter Try.func39, Try.ntmps39
    go_wp2
    go_ret
    exact ⟨rfl, HB.out⟩
  · rw [if_pos h6]
    have q6 : ((g.size : Int) != 48) = true := by simp; omega
    clear h1 h2 h3 h4 h5 h6
    go_enter Try.func39, Try.ntmps39
    go_wp2
    go_ret
    exact ⟨rfl, HB.out⟩
theorem wrong_at {r : Nat} (b : Bool) (p c e : Nat) (g : ByteArray) (l : Nat) (w : World) (h : wrongC ⟨b, p, c, e, g.data.toList⟩ l = r) :
    Calls Try.prog 39 #[cmV b p c e g, .int .u8 (l : Int)] w fun x w' => x = .returned (.int .i64 (r : Int)) ∧ Below w.heap.size w w' := by
  rw [← h]; exact wrong_any b p c e g l w

/-- 'copy(b, s)', s a text of whatever length -/
theorem run_copy_str {P : Program} (w : World) (dT sT ty elem : TypeId) (g n dCap : Nat) (s : ByteArray) (cur : Array Value) (t : TypeId)
    (hu : P.underlying dT = some (.slice elem)) (hs : (P.info? elem).map (·.size) = some 1) (hg : Blk w g t cur) (hn : cur.size = n) :
    (Builtin.copy_ #[dT, sT] ty #[.slice (some ⟨g, 0, none⟩) n dCap, .string s]).run P w =
      .ok (goInt (Nat.min s.size n)) (w.setRow g (byteVals (s.data.toList.take n) ++ cur.toList.drop (Nat.min s.size n)).toArray) := by
  have hone : ∀ v ∈ byteVals (s.data.toList.take n), v.oneCell' = true := by
    intro v hv
    simp only [byteVals, List.mem_map] at hv
    obtain ⟨b, _, rfl⟩ := hv
    rfl
  have hlen : (byteVals (s.data.toList.take n)).length = Nat.min s.size n := by
    simp only [byteVals, List.length_map, List.length_take, size_list]
    exact Nat.min_comm n s.size
  have hle : Nat.min s.size n ≤ cur.size := by rw [hn]; exact Nat.min_le_right _ _
  have hst := run_storeCells_at P g 0 t (byteVals (s.data.toList.take n)) 0 cur w hg (by rw [hlen]; omega) hone
  have htk : List.take (Nat.min s.size n) (List.map (fun b : UInt8 => Value.int IntKind.u8 (b.toNat : Int)) s.data.toList) = byteVals (s.data.toList.take n) := by
    unfold byteVals
    rw [← List.map_take]
    rcases Nat.le_total s.size n with h | h
    · rw [show Nat.min s.size n = s.size from Nat.min_eq_left h, List.take_of_length_le (l := s.data.toList) (i := n) (by rw [size_list]; exact h), List.take_of_length_le (by rw [size_list]; exact Nat.le_refl _)]
    · rw [show Nat.min s.size n = n from Nat.min_eq_right h]
  rw [hlen] at hst
  simp only [Nat.add_zero, Nat.zero_add, List.take_zero, List.nil_append] at hst
  cases hq : P.info? elem with
  | none => simp [hq] at hs
  | some i =>
    simp [Builtin.copy_, run_underlying hu, Builtin.lenOf, Builtin.firstCells, sizeOf, typeInfo, hq]
    rw [htk, hst]
    simp [Result.andThen]
theorem wpList_copy_str {P : Program} {w : World} {ops : Array Oper} {rest : List Oper} {o : Oper} {a : Act} {Q : Exit → Act → World → Prop} (hgd : o.guard = none) (d x : Operand) (dT sT : TypeId)
    (ho : o.op = .call { callee := .builtin .copy, args := #[d, x], argTypes := #[dT, sT] }) (elem : TypeId) (hu : P.underlying dT = some (.slice elem)) (hsz : (P.info? elem).map (·.size) = some 1)
    (g n dCap : Nat) (s : ByteArray) (hd : a.eval d = .slice (some ⟨g, 0, none⟩) n dCap) (hx : a.eval x = .string s) (cur : Array Value) (t : TypeId) (hg : Blk w g t cur) (hn : cur.size = n)
    (h : wpList P ops Q rest (a.put o.dst (goInt (Nat.min s.size n))) (w.setRow g (byteVals (s.data.toList.take n) ++ cur.toList.drop (Nat.min s.size n)).toArray)) : wpList P ops Q (o :: rest) a w := by
  refine wpList_plain hgd fun K hK => ?_
  have hrun := run_copy_str (P := P) w dT sT o.type elem g n dCap s cur t hu hsz hg hn
  unfold Oper.wp
  simp [execOp, ho, resolve, invoke, builtin, hd, hx, hrun, Result.andThen]
  exact hK _ _ h
theorem below_row {B g : Nat} {w0 w : World} (hb : Below B w0 w) (hBg : B ≤ g) (cs : Array Value) : Below B w0 (w.setRow g cs) :=
  hb.trans ⟨rfl, rfl, rfl, by simp [World.setRow], fun k hk => setRow_other w g k cs (by omega)⟩
theorem info1 : (Try.prog.info? 5).map (·.size) = some 1 := by kernel_rfl
theorem make48 (w : World) : (Instr.makeSlice 62 (.int .i64 48) (.int .i64 48)).run Try.prog w = .ok (.slice (some ⟨w.heap.size, 0, none⟩) 48 48) (w.alloc (.cells (byteVals (noughts 48)).toArray 5)) := by
  obtain ⟨i0, hi, hz0, hz1, hz2⟩ := info_parts info_u8
  have h := run_make (P := Try.prog) w 62 5 i0 (.int .u8 0) Try.underlying62 hi hz0 .i64 .i64 48 48 (by omega) (Int.le_refl _) (by rw [hz2]; decide) (by decide)
  rw [hz1, made_nums] at h
  exact h
theorem make16 (w : World) : (Instr.makeSlice 62 (.int .i64 16) (.int .i64 16)).run Try.prog w = .ok (.slice (some ⟨w.heap.size, 0, none⟩) 16 16) (w.alloc (.cells (byteVals (noughts 16)).toArray 5)) := by
  obtain ⟨i0, hi, hz0, hz1, hz2⟩ := info_parts info_u8
  have h := run_make (P := Try.prog) w 62 5 i0 (.int .u8 0) Try.underlying62 hi hz0 .i64 .i64 16 16 (by omega) (Int.le_refl _) (by rw [hz2]; decide) (by decide)
  rw [hz1, made_nums] at h
  exact h
theorem name_vals (s : ByteArray) : byteVals (s.data.toList.take 48) ++ ((byteVals (noughts 48)).toArray.toList).drop (Nat.min s.size 48) = byteVals (nameC s.data.toList) := by
  have e : (byteVals (noughts 48)).drop (Nat.min s.size 48) = byteVals (noughts (48 - s.data.toList.length)) := by
    unfold byteVals noughts
    rw [← List.map_drop, List.drop_replicate, size_list]
    congr 2
    rcases Nat.le_total s.size 48 with h | h
    · rw [show Nat.min s.size 48 = s.size from Nat.min_eq_left h]
    · rw [show Nat.min s.size 48 = 48 from Nat.min_eq_right h]; omega
  show byteVals (s.data.toList.take 48) ++ (byteVals (noughts 48)).drop (Nat.min s.size 48) = _
  rw [e]
  unfold nameC byteVals
  rw [List.map_append]
set_option maxHeartbeats 1000000 in
theorem name_any (s : ByteArray) (w : World) :
    Calls Try.prog 18 #[.string s] w fun x w' => x = .returned (.string ⟨(nameC s.data.toList).toArray⟩) ∧ Below w.heap.size w w' := by
  have hmk := make48 w
  obtain ⟨C0, hC0⟩ : ∃ C0, C0 = (byteVals (noughts 48)).toArray := ⟨_, rfl⟩
  rw [← hC0] at hmk
  obtain ⟨C1, hC1⟩ : ∃ C1, C1 = (byteVals (s.data.toList.take 48) ++ C0.toList.drop (Nat.min s.size 48)).toArray := ⟨_, rfl⟩
  have HV := Lib.hid (show C1.toList = byteVals (nameC s.data.toList) by rw [hC1, hC0]; exact name_vals s)
  have HC0 := Lib.hid (show C0.size = 48 by rw [hC0]; rfl)
  have HC1 := Lib.hid hC1
  clear hC0 hC1
  obtain ⟨nm, hnm⟩ : ∃ nm : ByteArray, (⟨(nameC s.data.toList).toArray⟩ : ByteArray) = nm := ⟨_, rfl⟩
  rw [hnm]
  have HNM := Lib.hid hnm; clear hnm
  go_enter Try.func18, Try.ntmps18
  go_upto_region 2 with (fail)
  have HK := Lib.hid (Blk.fresh w 5 C0)
  have HB := Lib.hid ((Below.refl w.heap.size w).alloc (Nat.le_refl _) (.cells C0 5))
  generalize w.alloc (.cells C0 5) = w1 at HK HB ⊢
  clear hmk
  go_upto_region 3 with (((with_reducible refine wpList_copy_str (o := ⟨some 7, _, _, _, _, _⟩) ?_ (.tmp 5) (.tmp 6) 62 9 ?_ 5 Try.underlying62 info1 w.heap.size 48 48 s ?_ ?_ C0 5 HK.out HC0.out ?_); (rfl); (rfl); (rfl); (rfl); (rw [← HC1.out])))
  have HK2 := Lib.hid (show Blk (w1.setRow w.heap.size C1) w.heap.size 5 C1 from setRow_heap w1 w.heap.size C0 C1 5 (0, 0) HK.out)
  have HB2 := Lib.hid (below_row HB.out (Nat.le_refl _) C1)
  generalize w1.setRow w.heap.size C1 = w2 at HK2 HB2 ⊢
  have hcv := Rg.back_blk (P := Try.prog) (src := 62) (dst := 9) nm (nameC s.data.toList) 48 48 HK2.out HV.out (length_name _) HNM.out Try.underlying62 Try.underlying5 Try.underlying9
  go_wp2
  go_ret
  exact ⟨rfl, HB2.out⟩
theorem name_at {nm : ByteArray} (s : ByteArray) (w : World) (h : (⟨(nameC s.data.toList).toArray⟩ : ByteArray) = nm) :
    Calls Try.prog 18 #[.string s] w fun x w' => x = .returned (.string nm) ∧ Below w.heap.size w w' := by
  rw [← h]; exact name_any s w

/-- the bytes of a group's text, k of them laid -/
def laid (l : List UInt8) (k : Nat) (i : Nat) : Nat := if i < k then byteAt l i else 0
theorem laid_lt (l : List UInt8) (k i : Nat) : laid l k i < 256 := by
  unfold laid
  split
  · exact UInt8.toNat_lt _
  · omega
theorem laid_zero (l : List UInt8) (m : Nat) : madeCells (Value.int .u8 0).cells (m * 1) = byteCells m (laid l 0) := by
  rw [made_nums]
  unfold numCells byteCells laid
  congr 1
theorem laid_put (l : List UInt8) (m k : Nat) : (byteCells m (laid l k)).setIfInBounds k (.int .u8 (byteAt l k : Nat)) = byteCells m (laid l (k + 1)) := by
  refine put_byteCells m _ _ _ _ ?_ ?_
  · unfold laid; rw [if_pos (by omega)]
  · intro i hi
    unfold laid
    by_cases h : i < k
    · rw [if_pos h, if_pos (by omega)]
    · rw [if_neg h, if_neg (by omega)]
theorem laid_name (l : List UInt8) (k : Nat) (h1 : k ≤ 48) (h2 : k ≤ l.length) (h3 : k = 48 ∨ k = l.length) : (List.range 48).map (fun i => UInt8.ofNat (laid l k i)) = nameC l := by
  unfold nameC noughts
  apply List.ext_getElem
  · simp; omega
  · intro i h4 h5
    simp only [List.length_map, List.length_range] at h4
    rw [List.getElem_map, List.getElem_range]
    unfold laid
    by_cases h : i < k
    · rw [if_pos h, List.getElem_append_left (by rw [List.length_take]; omega), List.getElem_take]
      unfold byteAt
      rw [List.getD_eq_getElem?_getD, List.getElem?_eq_getElem (by omega)]
      simp
    · rw [if_neg h, List.getElem_append_right (by rw [List.length_take]; omega)]
      simp
theorem make48f (l : List UInt8) (w : World) : (Instr.makeSlice 62 (.int .i64 48) (.int .i64 48)).run Try.prog w = .ok (.slice (some ⟨w.heap.size, 0, none⟩) 48 48) (w.alloc (.cells (byteCells 48 (laid l 0)) 5)) := by
  obtain ⟨i0, hi, hz0, hz1, hz2⟩ := info_parts info_u8
  have h := run_make (P := Try.prog) w 62 5 i0 (.int .u8 0) Try.underlying62 hi hz0 .i64 .i64 48 48 (by omega) (Int.le_refl _) (by rw [hz2]; decide) (by decide)
  rw [hz1, laid_zero l] at h
  exact h
set_option maxHeartbeats 1000000 in
theorem rname_any (s : ByteArray) (w : World) (hs : s.size ≤ maxLen) :
    Calls Try.prog 19 #[.string s] w fun x w' => x = .returned (.string ⟨(nameC s.data.toList).toArray⟩) ∧ Below w.heap.size w w' := by
  have hmk := make48f s.data.toList w
  have hsl := size_list s
  obtain ⟨nm, hnm⟩ : ∃ nm : ByteArray, (⟨(nameC s.data.toList).toArray⟩ : ByteArray) = nm := ⟨_, rfl⟩
  rw [hnm]
  have HNM := Lib.hid hnm; clear hnm
  have HSL := Lib.hid hsl; clear hsl
  have HMK := Lib.hid hmk
  unfold maxLen at hs
  go_enter Try.func19, Try.ntmps19
  go_wp2_with fail
  clear hmk
  go_loopw [4] (fun i wr => ∃ k : Nat, k ≤ 48 ∧ k ≤ s.size ∧ i = .int .i64 k ∧ Blk wr w.heap.size 5 (byteCells 48 (laid s.data.toList k)) ∧ Below w.heap.size w wr) (fun i _ => 48 - (intOf i).toNat)
  case atStart => exact ⟨0, by omega, by omega, rfl, Blk.fresh w _ _, (Below.refl _ _).alloc (Nat.le_refl _) _⟩
  case round =>
    obtain ⟨k, hk, hks, rfl, hblk, hb⟩ := hrel
    have HB := Lib.hid hb; clear hb
    have HK := Lib.hid hblk; clear hblk
    have hsz := HB.out.size
    by_cases h48 : k < 48
    · have q1 : decide ((k : Int) < 48) = true := lt_t (by omega)
      by_cases hlt : k < s.size
      · have q2 : decide (k < s.size) = true := by simpa using hlt
        have c1 := HK.out.cell k
        rw [get_byteCells _ _ _ h48] at c1
        have f1 := HK.out.frozen k
        have b1 := byte_idx s k hlt
        have HP := Lib.hid (HK.out.put k (.int .u8 (byteAt s.data.toList k : Nat)))
        go_wp2
        go_roundw
        case rel => exact ⟨k + 1, by omega, by omega, by go_num, by have h := HP.out; rw [laid_put] at h; exact h, HB.out.setCell (Nat.le_refl _) _⟩
        case measure => simp [intOf]; omega
      · have q2 : decide (k < s.size) = false := by simpa using hlt
        have hcv := run_back (P := Try.prog) (src := 62) (dst := 9) HK.out (laid_lt s.data.toList k) Try.underlying62 Try.underlying5 Try.underlying9 48
        rw [laid_name s.data.toList k (by omega) (by rw [HSL.out]; omega) (.inr (by rw [HSL.out]; omega)), HNM.out] at hcv
        clear hlt
        go_wp2
        go_ret
        exact ⟨rfl, HB.out⟩
    · have q1 : decide ((k : Int) < 48) = false := lt_f (by omega)
      have hcv := run_back (P := Try.prog) (src := 62) (dst := 9) HK.out (laid_lt s.data.toList k) Try.underlying62 Try.underlying5 Try.underlying9 48
      rw [laid_name s.data.toList k (by omega) (by rw [HSL.out]; omega) (.inl (by omega)), HNM.out] at hcv
      clear h48
      go_wp2
      go_ret
      exact ⟨rfl, HB.out⟩
end Go.Proofs.Ytnapbmdkaldncaa.Cc
