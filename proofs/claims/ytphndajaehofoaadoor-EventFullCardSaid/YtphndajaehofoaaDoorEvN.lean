/-
  The statement EventFull: its walk.
-/
import Derived.Test.YtphndajaehofoaaDoorEvM
namespace Go.Proofs.YtphndajaehofoaaDoor.Ev
open Go.RowKit Go.Proofs.YtphndajaehofoaaDoor.Bt Go.Proofs.YtphndajaehofoaaDoor.Mm Go.Proofs.YtphndajaehofoaaDoor.Fl Go.Proofs.YtphndajaehofoaaDoor.Lw Go.Proofs.YtphndajaehofoaaDoor.Tg Go.Proofs.YtphndajaehofoaaDoor.Oa Go.Proofs.YtphndajaehofoaaDoor.Op
set_option linter.unusedVariables false
set_option linter.unusedSimpArgs false

theorem made_events (k : Nat) : (madeCells (Value.agg zeroC).cells (k * 5)).toList = eventCells (List.replicate k zeroE) := by
  apply List.ext_getElem?
  intro i
  by_cases h : i < k * 5
  · obtain ⟨g0, g1, g2, g3, g4⟩ := get_eventCells (List.replicate k zeroE) (i / 5) (by rw [List.length_replicate]; omega)
    simp only [List.getElem_replicate] at g0 g1 g2 g3 g4
    have hl0 : ∀ z : Array Value, (madeCells z (k * 5)).toList[i]? = some (z[i % z.size]!) := by
      intro z
      simp [madeCells, h]
    have hl : (madeCells (Value.agg zeroC).cells (k * 5)).toList[i]? = some (zeroC[i % 5]!) := hl0 zeroC
    rw [hl]
    have h5 : i % 5 = 0 ∨ i % 5 = 1 ∨ i % 5 = 2 ∨ i % 5 = 3 ∨ i % 5 = 4 := by omega
    rcases h5 with h5 | h5 | h5 | h5 | h5
    · rw [h5]; rw [show i / 5 * 5 = i by omega] at g0; rw [g0]; rfl
    · rw [h5]; rw [show i / 5 * 5 + 1 = i by omega] at g1; rw [g1]; rfl
    · rw [h5]; rw [show i / 5 * 5 + 2 = i by omega] at g2; rw [g2]; rfl
    · rw [h5]; rw [show i / 5 * 5 + 3 = i by omega] at g3; rw [g3]; rfl
    · rw [h5]; rw [show i / 5 * 5 + 4 = i by omega] at g4; rw [g4]; rfl
  · rw [List.getElem?_eq_none (by rw [Array.length_toList, size_madeCells]; omega), List.getElem?_eq_none (by rw [length_eventCells, List.length_replicate]; omega)]
theorem rep_ok (k : Nat) : ∀ q ∈ List.replicate k zeroE, okE q ∧ faultE q = 0 := by
  intro q hq
  obtain rfl := (List.mem_replicate.1 hq).2
  exact ⟨⟨by decide, by decide, by decide, by decide, by decide⟩, by decide⟩
theorem rep_bytes (k : Nat) : (List.replicate k zeroE).flatMap bytesE = List.replicate (6 * k) (0 : UInt8) := by
  induction k with
  | zero => rfl
  | succ k ih =>
    have e : bytesE zeroE = List.replicate 6 (0 : UInt8) := by decide
    rw [List.replicate_succ, List.flatMap_cons, ih, e, List.replicate_append_replicate]
    congr 1
    omega
theorem rep_close (k : Nat) (h : k ≤ 10000) : closeE (List.replicate k zeroE) = (List.replicate (6 * k) 0, 0) := by
  unfold closeE
  rw [if_pos (faults_all (fun q hq => (rep_ok k q hq).2)), if_neg (by rw [List.length_replicate]; omega), rep_bytes]
theorem rep_close_full (k : Nat) (h : 10000 < k) : closeE (List.replicate k zeroE) = ([], 9) := by
  unfold closeE
  rw [if_pos (faults_all (fun q hq => (rep_ok k q hq).2)), if_pos (by rw [List.length_replicate]; omega)]
theorem rep_open (k : Nat) (h : k ≤ 10000) : openE ⟨(List.replicate (6 * k) (0 : UInt8)).toArray⟩ = (List.replicate k zeroE, 0) := open_closed (fun q hq => (rep_ok k q hq).1) (rep_close k h)
theorem rep_open_full (k : Nat) (h : 10000 < k) : openE ⟨(List.replicate (6 * k) (0 : UInt8)).toArray⟩ = ([], 9) := by
  have he := each_there (List.replicate k zeroE) [] (rep_ok k)
  rw [List.nil_append, rep_bytes] at he
  unfold openE
  rw [show eachE ⟨(List.replicate (6 * k) (0 : UInt8)).toArray⟩ 0 = (List.replicate k zeroE).map (fun q => (q, 0)) from he, List.map_replicate]
  obtain ⟨m, rfl⟩ : ∃ m, k = 10000 + (1 + m) := ⟨k - 10001, by omega⟩
  rw [← List.replicate_append_replicate, ← List.replicate_append_replicate, ← List.append_assoc]
  exact openL_full (List.replicate 10000 (zeroE, 0)) (zeroE, 0) (List.replicate m (zeroE, 0)) (fun y hy => by rw [(List.mem_replicate.1 hy).2]) List.length_replicate
theorem zeros_vals (m : Nat) : (numCells .u8 m (fun _ => 0)).toList = byteVals (List.replicate m 0) := by
  unfold numCells byteVals
  rw [List.map_replicate]
  apply List.ext_getElem?
  intro i
  by_cases h : i < m
  · simp [h]
  · simp [h]
theorem close_len {bs : List UInt8} {n : Nat} (l : List Ev) (A : Option Addr) (cp k : Nat) (w : World) (h : closeE l = (bs, n)) (hA : Rd w w.heap.size A (eventCells l)) (hok : ∀ q ∈ l, okE q) (hk : l.length = k) (hm : k ≤ maxLen) :
    Calls Tryd.prog 10 #[.slice A k cp] w fun e w' => (∃ b, e = .returned (.tuple #[.string b, .int .i64 (n : Int)])) ∧ Below w.heap.size w w' := by
  subst hk
  refine (close_at l A cp w h hA hok hm).mono ?_
  rintro e w' ⟨rfl, hb⟩
  exact ⟨⟨_, rfl⟩, hb⟩
theorem open_len {L : List Ev} {c : Nat} (s : ByteArray) (n : Nat) (w : World) (h : openE s = (L, c)) (hs : s.size ≤ maxLen) (hn : L.length = n) :
    Calls Tryd.prog 14 #[.string s] w fun e w' => ∃ A cp, e = .returned (.tuple #[.slice A n cp, .int .i64 (c : Int)]) ∧ Below w.heap.size w w' := by
  subst hn
  refine (open_at s w h hs).mono ?_
  rintro e w' ⟨A, cp, rfl, _, hb⟩
  exact ⟨A, cp, rfl, hb⟩
set_option maxRecDepth 100000 in
set_option maxHeartbeats 2000000 in
/-- over what Close and Open answer: n, c, and how many events are opened -/
theorem full_any (nn r k : Nat) (w : World) (n c j : Nat) (bs : List UInt8) (M : List Ev) (hnn : nn < 256) (hr : r = nn % 20) (hk : k = 9990 + r) (hcl : closeE (List.replicate k zeroE) = (bs, n)) (hop : openE ⟨(List.replicate (6 * k) (0 : UInt8)).toArray⟩ = (M, c)) (hj : M.length = j)
    (hend : (10000 < k ∧ n = 9 ∧ c = 9 ∧ j = 0) ∨ (k ≤ 10000 ∧ n = 0 ∧ c = 0 ∧ j = k)) (hw : Wd w) :
    Calls Tryd.prog 6 #[.int .u8 (nn : Int)] w (Law1 w) := by
  have HW := Lib.hid hw; clear hw
  obtain ⟨i0, hi, hz0, hz1, hz2⟩ := info_parts info_ev3
  obtain ⟨j0, hi', hy0, hy1, hy2⟩ := info_parts info_u8e
  obtain ⟨m, hm⟩ : ∃ m, m = 6 * k := ⟨_, rfl⟩
  rw [← hm] at hop
  have q1 : (nn : Int).tmod 20 = (r : Int) := by rw [Int.tmod_eq_emod_of_nonneg (by omega)]; omega
  have q2 : IntKind.u8.wrap (r : Int) = (r : Int) := IntWalk.u8_in _ ⟨by omega, by omega⟩
  have q3 : IntKind.i64.wrap (r : Int) = (r : Int) := IntWalk.i64_in _ ⟨by omega, by omega⟩
  have q4 : IntKind.i64.wrap (9990 + (r : Int)) = (k : Int) := by rw [IntKind.wrap_i64]; omega
  have q5 : IntKind.i64.wrap (6 * (k : Int)) = (m : Int) := by rw [IntKind.wrap_i64]; omega
  have hk2 : k ≤ 10009 := by omega
  have hm2 : m ≤ 60054 := by omega
  have hmk : (Instr.makeSlice 22 (.int .i64 (k : Int)) (.int .i64 (k : Int))).run Tryd.prog w = .ok (.slice (some ⟨w.heap.size, 0, none⟩) k k) (w.alloc (.cells (madeCells (Value.agg zeroC).cells (k * 5)) 28)) := by
    have h := run_make (P := Tryd.prog) w 22 28 i0 (.agg zeroC) Tryd.underlying22 hi hz0 .i64 .i64 (k : Int) (k : Int) (by omega) (Int.le_refl _) (by rw [hz2]; omega) (by omega)
    rw [show ((k : Nat) : Int).toNat = k by omega, hz1] at h
    exact h
  have hmu : ∀ wx : World, (Instr.makeSlice 46 (.int .i64 (m : Int)) (.int .i64 (m : Int))).run Tryd.prog wx = .ok (.slice (some ⟨wx.heap.size, 0, none⟩) m m) (wx.alloc (.cells (numCells .u8 m (fun _ => 0)) 5)) := by
    intro wx
    have h := run_make (P := Tryd.prog) wx 46 5 j0 (.int .u8 0) Tryd.underlying46 hi' hy0 .i64 .i64 (m : Int) (m : Int) (by omega) (Int.le_refl _) (by rw [hy2]; omega) (by omega)
    rw [show ((m : Nat) : Int).toNat = m by omega, hy1, made_nums] at h
    exact h
  have HMU := Lib.hid hmu; clear hmu
  have hcs := made_events k
  obtain ⟨C, hC⟩ : ∃ C, madeCells (Value.agg zeroC).cells (k * 5) = C := ⟨_, rfl⟩
  rw [hC] at hmk hcs
  have hD0 := zeros_vals m
  obtain ⟨D, hD⟩ : ∃ D, numCells .u8 m (fun _ => 0) = D := ⟨_, rfl⟩
  rw [hD] at hD0 HMU
  obtain ⟨sb, hsb⟩ : ∃ sb : ByteArray, (⟨(List.replicate m (0 : UInt8)).toArray⟩ : ByteArray) = sb := ⟨_, rfl⟩
  have hss : sb.size ≤ maxLen := by rw [← hsb]; show (List.replicate m (0 : UInt8)).toArray.size ≤ _; simp; unfold maxLen; omega
  rw [hsb] at hop
  have hRd : Rd (w.alloc (.cells C 28)) (w.alloc (.cells C 28)).heap.size (some ⟨w.heap.size, 0, none⟩) (eventCells (List.replicate k zeroE)) := by
    have := Rd.of_blk (Blk.fresh w 28 C) C.toList.length
    rw [List.take_length, hcs] at this
    exact this
  have HB1 := Lib.hid ((Below.refl w.heap.size w).alloc (Nat.le_refl _) (.cells C 28))
  have HRD := Lib.hid hRd
  have HCL := Lib.hid hcl; have HOP := Lib.hid hop; have HJ := Lib.hid hj; have HSB := Lib.hid hsb; have HD0 := Lib.hid hD0; have HSS := Lib.hid hss
  have hkm : k ≤ maxLen := by unfold maxLen; omega
  have HKM := Lib.hid hkm
  have HEND := Lib.hid hend
  clear hRd hcl hop hj hsb hcs hC hD hD0 hss hkm hend hr hk hm hi hi' hz0 hz1 hz2 hy0 hy1 hy2
  go_enter Tryd.func6, Tryd.ntmps6
  go_upto_region 3 with (fail)
  generalize hw1 : w.alloc (.cells C 28) = w1 at HB1 HRD ⊢
  clear hw1 hmk
  go_wp2_with fail
  refine (close_len (List.replicate k zeroE) _ _ k w1 HCL.out HRD.out (fun q hq => (rep_ok k q hq).1) List.length_replicate HKM.out).mono ?_
  rintro e w2 ⟨⟨b0, rfl⟩, hb2⟩
  have HB2 := Lib.hid (HB1.out.trans (hb2.mono HB1.out.size))
  clear hb2 HB1 HRD
  have hmk := HMU.out w2
  have hcv := Rg.back_blk (P := Tryd.prog) (src := 46) (dst := 9) (e := 5) sb (List.replicate m 0) m m (Blk.fresh w2 5 D) HD0.out List.length_replicate HSB.out Tryd.underlying46 Tryd.underlying5 Tryd.underlying9
  have HB3 := Lib.hid (HB2.out.alloc HB2.out.size (.cells D 5))
  go_wp2_with fail
  generalize hw3 : w2.alloc (.cells D 5) = w3 at HB3 ⊢
  clear hw3 hmk hcv
  refine (open_len sb j w3 HOP.out HSS.out HJ.out).mono ?_
  rintro e w4 ⟨A4, cp4, rfl, hb4⟩
  have HB4 := Lib.hid (HB3.out.trans (hb4.mono HB3.out.size))
  clear hb4 HB3 HB2
  rcases HEND.out with ⟨h1, h2, h3, h4⟩ | ⟨h1, h2, h3, h4⟩
  · have d : decide ((10000 : Int) < (k : Int)) = true := by simp; omega
    have x1 : ((n : Int) == 9) = true := by simp; omega
    have x2 : ((c : Int) == 9) = true := by simp; omega
    have x3 : ((j : Int) == 0) = true := by simp; omega
    clear h1 h2 h3 h4 HEND
    go_wp2_with fail
    refine (awake22 w4 (HW.out.below HB4.out HW.out.lt)).mono ?_
    rintro e w5 ⟨rfl, hb5⟩
    have HB5 := Lib.hid (HB4.out.trans (hb5.mono HB4.out.size))
    go_wp2
    go_ret
    exact ⟨rfl, HB5.out⟩
  · have d : decide ((10000 : Int) < (k : Int)) = false := by simp; omega
    have x1 : ((n : Int) == 0) = true := by simp; omega
    have x2 : ((c : Int) == 0) = true := by simp; omega
    have x3 : ((j : Int) == (k : Int)) = true := by simp; omega
    clear h1 h2 h3 h4 HEND
    go_wp2_with fail
    refine (awake22 w4 (HW.out.below HB4.out HW.out.lt)).mono ?_
    rintro e w5 ⟨rfl, hb5⟩
    have HB5 := Lib.hid (HB4.out.trans (hb5.mono HB4.out.size))
    go_wp2
    go_ret
    exact ⟨rfl, HB5.out⟩
theorem full_walk (nn : Nat) (w : World) (hnn : nn < 256) (hw : Wd w) : Calls Tryd.prog 6 #[.int .u8 (nn : Int)] w (Law1 w) := by
  by_cases h : 10000 < 9990 + nn % 20
  · exact full_any nn _ _ w 9 9 0 [] [] hnn rfl rfl (rep_close_full _ h) (rep_open_full _ h) rfl (.inl ⟨h, rfl, rfl, rfl⟩) hw
  · exact full_any nn _ _ w 0 0 _ _ _ hnn rfl rfl (rep_close _ (by omega)) (rep_open _ (by omega)) List.length_replicate (.inr ⟨by omega, rfl, rfl, rfl⟩) hw
end Go.Proofs.YtphndajaehofoaaDoor.Ev
