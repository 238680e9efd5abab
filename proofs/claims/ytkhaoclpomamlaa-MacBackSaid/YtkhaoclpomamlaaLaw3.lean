/-
  The statement FieldBack: its walk.
-/
import Derived.Test.YtkhaoclpomamlaaLaw2
import Derived.Test.YtkhaoclpomamlaaBack
import Derived.Deep.DeepCutAuto
namespace Go.Proofs.Ytkhaoclpomamlaa.Lw
open Go.RowKit Go.Proofs.Ytkhaoclpomamlaa.Bt Go.Proofs.Ytkhaoclpomamlaa.Mm Go.Proofs.Ytkhaoclpomamlaa.Fl Go.Proofs.Ytkhaoclpomamlaa.Rf

theorem pack_at {b : List UInt8} {k : Nat} (ps : List (Int × Nat)) (A : Option Addr) (c : Nat) (w : World) (h : packR ps = (b, k)) (hn : ps.length ≤ 100000) (hA : Rd w w.heap.size A (partCells ps)) (hv : ∀ p ∈ ps, p.2 < 18446744073709551616) :
    Calls Try.prog 10 #[.slice A ps.length c] w fun e w' => e = .returned (.tuple #[.string ⟨b.toArray⟩, .int .i64 (k : Nat)]) ∧ Below w.heap.size w w' := by
  have := pack_any ps A c w hn hA hv
  rw [h] at this
  exact this
theorem split_len {vs : List Nat} {r : ByteArray} {k : Nat} (s : ByteArray) (zs : List Int) (n m : Nat) (A : Option Addr) (c : Nat) (w : World) (h : splitR s zs = (vs, r, k)) (hn : zs.length = n) (hm : vs.length = m) (hs : s.size ≤ maxLen) (hn2 : n ≤ 100000) (hA : Rd w w.heap.size A (ints zs)) :
    Calls Try.prog 12 #[.string s, .slice A n c] w fun e w' => ∃ A' c', e = .returned (.tuple #[.slice A' m c', .string r, .int .i64 (k : Nat)]) ∧ Rd w' w'.heap.size A' (nums .u64 vs) ∧ Below w.heap.size w w' := by
  subst hn hm
  exact split_at s zs A c w h hs hn2 hA
theorem numbers_len (l : List Nat) (n : Nat) (A B : Option Addr) (c d : Nat) (w : World) (hn : l.length = n) (hl : n ≤ 100000) (hA : Rd w w.heap.size A (nums .u64 l)) (hB : Rd w w.heap.size B (nums .u64 l)) :
    Calls Try.prog 14 #[.slice A n c, .slice B n d] w fun e w' => e = .returned (.bool true) ∧ Below w.heap.size w w' := by
  subst hn
  exact numbers_same l A B c d w hl hA hB
theorem size_app (a b : ByteArray) : (a ++ b).size = a.size + b.size := by simp
theorem list_app (a b : ByteArray) : (a ++ b).data.toList = a.data.toList ++ b.data.toList := by simp
theorem pack_len {b : List UInt8} {k : Nat} (ps : List (Int × Nat)) (n : Nat) (A : Option Addr) (c : Nat) (w : World) (h : packR ps = (b, k)) (hn : ps.length = n) (hn2 : n ≤ 100000) (hA : Rd w w.heap.size A (partCells ps)) (hv : ∀ p ∈ ps, p.2 < 18446744073709551616) :
    Calls Try.prog 10 #[.slice A n c] w fun e w' => e = .returned (.tuple #[.string ⟨b.toArray⟩, .int .i64 (k : Nat)]) ∧ Below w.heap.size w w' := by
  subst hn
  exact pack_at ps A c w h hn2 hA hv
theorem info_fpart : (Try.prog.info? 27).map (fun i => (i.zero, i.size, i.bytes)) = some (some (.agg #[.int .i64 0, .int .u64 0]), 2, 16) := by kernel_rfl

/-- behind an append onto an older row a box is as it was -/
theorem box_kept {wr w2 : World} {cs : Array Value} {t : TypeId} {o : Obj} {row : Option Nat} (hg : ((wr.alloc (.cells cs t)).alloc o).grownBy w2 row) (hr : ∀ g, row = some g → g < wr.heap.size) : Blk w2 wr.heap.size t cs ∧ wr.heap.size + 2 ≤ w2.heap.size := by
  refine ⟨((Blk.fresh wr t cs).alloc o).grown hg (fun e => ?_), ?_⟩
  · have := hr _ e.symm; omega
  · have := hg.size; simp at this; omega

set_option maxRecDepth 100000 in
set_option maxHeartbeats 2000000 in
theorem back_walk (ps : List (Int × Nat)) (A : Option Addr) (c : Nat) (s bh : ByteArray) (zs : List Int) (Z : Option Addr) (zc : Nat) (w : World) (hm : ps.length ≤ maxLen) (hA : Rd w w.heap.size A (partCells ps)) (hv : ∀ p ∈ ps, p.2 < 18446744073709551616)
    (hs : s.size ≤ maxLen) (hbh : bh.size ≤ maxLen) (hzm : zs.length ≤ maxLen) (hZ : Rd w w.heap.size Z (ints zs)) (_hB : ∀ z ∈ zs, (Lit.int .i64 z).wf = true) :
    Calls Try.prog 5 #[.slice A ps.length c, .string s, .string bh, .slice Z zs.length zc] w (Law1 w) := by
  clear _hB
  unfold maxLen at hm hs hbh hzm
  have HA := Lib.hid hA; clear hA
  have HV := Lib.hid hv; clear hv
  have HZ := Lib.hid hZ; clear hZ
  by_cases h1 : 60 < ps.length ∨ 600 < s.size ∨ 100 < bh.size ∨ 60 < zs.length
  · have fin : Calls Try.prog 5 #[.slice A ps.length c, .string s, .string bh, .slice Z zs.length zc] w (Law1 w) := by
      go_enter Try.func5, Try.ntmps5
      go_wp2_with (go_at_call 9; refine (awake1 w).mono ?_; rintro e w1 ⟨rfl, hb⟩; have HB := Lib.hid hb; clear hb)
      all_goals go_ret
      all_goals exact ⟨rfl, HB.out⟩
    exact fin
  have hl1 : decide ((60 : Int) < (ps.length : Int)) = false := by simp; omega
  have hl2 : decide ((600 : Int) < (s.size : Int)) = false := by simp; omega
  have hl3 : decide ((100 : Int) < (bh.size : Int)) = false := by simp; omega
  have hl4 : decide ((60 : Int) < (zs.length : Int)) = false := by simp; omega
  obtain ⟨b, k, hpk⟩ : ∃ b k, packR ps = (b, k) := ⟨_, _, rfl⟩
  have HP := Lib.hid hpk; clear hpk
  go_enter Try.func5, Try.ntmps5
  go_wp2_with fail
  refine (pack_at ps A c w HP.out (by omega) HA.out HV.out).mono ?_
  rintro e w1 ⟨rfl, hb1⟩
  have hz1 := hb1.size
  have HB1 := Lib.hid hb1; clear hb1
  obtain ⟨kb, hkb⟩ : ∃ kb, ((k : Int) == 0) = kb := ⟨_, rfl⟩
  go_upto_if 51 with (fail)
  go_cut [] (fun wx => Below w.heap.size w wx)
  case first =>
    have HKB := Lib.hid hkb; clear hkb
    cases kb with
    | true =>
      have HK0 := Lib.hid (show packR ps = (b, 0) by rw [HP.out]; have := HKB.out; simp at this; rw [this])
      obtain ⟨i0, hi, hz0, hz1', hz2⟩ := info_parts info_u64
      obtain ⟨j0, hj, hy0, hy1, hy2⟩ := info_parts info_int
      go_wp2
      go_loopw [11, 12, 54] (fun v1 v2 i wr => ∃ (j : Nat) (R1 : Option Addr) (c1 : Nat) (R2 : Option Addr) (c2 : Nat), j ≤ ps.length ∧ i = .int .i64 j ∧ v1 = .slice R1 j c1 ∧ v2 = .slice R2 j c2 ∧
          wr.ownsRow w.heap.size 3 1 (.slice R1 j c1) j (ints ((ps.map (·.1)).take j)) ∧ wr.ownsRow w.heap.size 25 1 (.slice R2 j c2) j (nums .u64 ((ps.map (·.2)).take j)) ∧ Below w.heap.size w wr) (fun _ _ i _ => ps.length - (intOf i).toNat)
      case atStart => exact ⟨0, none, 0, none, 0, Nat.zero_le _, rfl, rfl, rfl, World.ownsRow_nil _ _ _ _, World.ownsRow_nil _ _ _ _, HB1.out⟩
      case round =>
        obtain ⟨j, R1, c1, R2, c2, hj1, rfl, rfl, rfl, ho1, ho2, hb⟩ := hrel
        by_cases hlt : j < ps.length
        · have hc := get_partCells ps j hlt
          obtain ⟨ad, rfl, hbl, hcell⟩ := (HA.out.below hb) (by rw [length_partCells]; omega)
          have d0 := hcell _ _ hc.1
          have d1 := hcell _ _ hc.2
          rw [add_succ] at d1
          clear hcell hc
          have hsz := hb.size
          have e1 : ints ((ps.map (·.1)).take (j + 1)) = ints ((ps.map (·.1)).take j) ++ [.int .i64 ps[j].1] := by
            rw [List.take_succ_eq_append_getElem (by simpa using hlt)]; simp [ints]
          have e2 : nums .u64 ((ps.map (·.2)).take (j + 1)) = nums .u64 ((ps.map (·.2)).take j) ++ [.int .u64 (ps[j].2 : Nat)] := by
            rw [List.take_succ_eq_append_getElem (by simpa using hlt)]; simp [nums]
          generalize hp : ps[j] = p at d0 d1 e1 e2
          clear hp
          obtain ⟨W, V⟩ := p
          simp only at d0 d1 e1 e2
          have HE1 := Lib.hid e1; clear e1
          have HE2 := Lib.hid e2; clear e2
          have HB := Lib.hid hb; clear hb
          have HO1 := Lib.hid ho1
          have HO2 := Lib.hid ho2
          have hr1 : ∀ g, (Value.slice R1 j c1).ownBlock = some g → g < wr.heap.size := fun g hg => (ho1.lt g hg).2
          have HRL := Lib.hid hr1
          clear hr1 ho1 ho2
          go_wp2_with (first
            | (at_builtin; refine wpList_append_own _ rfl (.tmp 58) (.tmp 61) 35 rfl w.heap.size 3 j0 (.int .i64 0) 1 8 Try.underlying35 hj hy0 hy1 hy2 rfl (by decide) _ _ _ rfl ((HO1.out.alloc _).alloc _) ⟨wr.heap.size + 1, 0, none⟩ 1 1 [.int .i64 W] rfl rfl (cells_new _ _ _ _ _ (by simp) rfl) (by intro u hu; simp at hu; subst hu; rfl) (by unfold maxLen; omega) (by omega) (by simp; omega) ?_; intro v1 w2 hown1 hgrow1 _; have hbk := box_kept hgrow1 HRL.out; have x1 := hbk.1.cell 1; simp at x1; have hs2 := hbk.2; have HB2 := Lib.hid (below_own ((HB.out.alloc hsz _).alloc (by simp; omega) _) ((HO1.out.alloc _).alloc _) (by simp; omega) hgrow1); have HO3 := Lib.hid (((HO2.out.alloc _).alloc _).kept hgrow1 (own_ne HO2.out HO1.out (by decide))); have HN1 := Lib.hid hown1; clear hbk hown1 hgrow1)
            | (at_builtin; refine wpList_append_own _ rfl (.tmp 63) (.tmp 66) 36 rfl w.heap.size 25 i0 (.int .u64 0) 1 8 Try.underlying36 hi hz0 hz1' hz2 rfl (by decide) _ _ _ rfl (HO3.out.alloc _) ⟨w2.heap.size, 0, none⟩ 1 1 [.int .u64 (V : Int)] rfl rfl (cell_new _ _ _) (by intro u hu; simp at hu; subst hu; rfl) (by unfold maxLen; omega) (by omega) (by simp; omega) ?_; intro v2 w3 hown2 hgrow2 _))
          obtain ⟨R1', c1', rfl⟩ := own_slice HN1.out
          obtain ⟨R2', c2', rfl⟩ := own_slice hown2
          have HB3 := Lib.hid (below_own (HB2.out.alloc (by omega) _) (HO3.out.alloc _) (by simp; omega) hgrow2)
          have HN2 := Lib.hid ((HN1.out.alloc _).kept hgrow2 (own_ne HN1.out HO3.out (by decide)))
          have HN3 := Lib.hid hown2
          clear hown2 hgrow2
          go_roundw
          case rel =>
            refine ⟨j + 1, R1', c1', R2', c2', by omega, by go_num, by go_num, by go_num, ?_, ?_, HB3.out⟩
            · rw [HE1.out]; exact HN2.out
            · rw [HE2.out]; exact HN3.out
          case measure => simp [intOf]; omega
        · obtain rfl : j = ps.length := by omega
          rw [List.take_of_length_le (by simp)] at ho1 ho2
          have hr1 := Rd.of_own ho1
          have hr2 := Rd.of_own ho2
          have hsz := hb.size
          have HR1 := Lib.hid hr1
          have HR2 := Lib.hid hr2
          have HB := Lib.hid hb
          clear hr1 hr2 hb ho1 ho2
          have hbl := packR_len HP.out
          have hno : ¬ 9223372036854775807 < b.length + bh.size := by omega
          have hsp := split_packed ps b bh HK0.out (⟨b.toArray⟩ ++ bh) (by rw [list_app])
          have HSP := Lib.hid hsp; clear hsp
          go_wp2_with fail
          refine (split_len _ (ps.map (·.1)) ps.length ps.length R1 c1 wr HSP.out (by simp) (by simp) (by rw [size_app, size_mk]; unfold maxLen; omega) (by omega) HR1.out).mono ?_
          rintro e w2 ⟨A', c', rfl, hr3, hb2⟩
          have HR3 := Lib.hid hr3
          have HR4 := Lib.hid ((HR2.out.below hb2).more hb2.size)
          have HB2 := Lib.hid (HB.out.trans (hb2.mono hsz))
          have hs2 := hb2.size
          clear hr3 hb2
          go_wp2_with fail
          refine (numbers_len (ps.map (·.2)) ps.length A' R2 c' c2 w2 (by simp) (by omega) HR3.out HR4.out).mono ?_
          rintro e w3 ⟨rfl, hb3⟩
          have HB3 := Lib.hid (HB2.out.trans (hb3.mono (by omega)))
          clear hb3
          go_wp2
          go_meet
          exact HB3.out
    | false =>
      go_wp2
      go_meet
      exact HB1.out
  case rest =>
    have HC := Lib.hid hcut
    have hzc := hcut.size
    clear hcut
    obtain ⟨vs, r, k2, hsp⟩ : ∃ vs r k2, splitR s zs = (vs, r, k2) := ⟨_, _, _, rfl⟩
    have hvl := splitR_len hsp
    have HS := Lib.hid hsp; clear hsp
    go_wp2_with fail
    refine (split_at s zs Z zc wc HS.out (by unfold maxLen; omega) (by omega) ((HZ.out.below HC.out).more hzc)).mono ?_
    rintro e w2 ⟨A', c', rfl, hr2, hb2⟩
    have HR2 := Lib.hid hr2
    have HB2 := Lib.hid (HC.out.trans (hb2.mono hzc))
    have hs2 := HB2.out.size
    clear hr2 hb2
    by_cases hk2 : k2 = 0
    · have ht : ((k2 : Int) != 0) = false := by simp [hk2]
      have HS0 := Lib.hid (show splitR s zs = (vs, r, 0) by rw [HS.out, hk2])
      clear hk2
      have hvn : vs.length = zs.length := by rw [(splitR_zero HS0.out).2.2.2.1, length_valsOf]
      have hvs1 : zs.length ≤ vs.length := by omega
      clear hvn
      have HV64 := Lib.hid (show ∀ q ∈ zs.zip vs, q.2 < 18446744073709551616 by
        intro q hq
        obtain ⟨i, hi, rfl⟩ := List.getElem_of_mem hq
        have hs0 := splitR_zero HS0.out
        have hi' : i < zs.length := by rw [List.length_zip] at hi; omega
        have hz := of_decide_eq_true (List.all_eq_true.1 hs0.1 _ (List.getElem_mem hi'))
        have hlt := getB_lt s (tot (zs.take i)) zs[i].toNat
        have hp := pow_le zs[i].toNat (by omega)
        have e : (zs.zip vs)[i].2 = getB s (tot (zs.take i)) zs[i].toNat := by
          rw [List.getElem_zip]
          simp only [hs0.2.2.2.1]
          exact get_valsOf s zs i hi'
        rw [e]; omega)
      obtain ⟨bb, hpk, happ⟩ := pack_split s zs vs r HS0.out
      have HPK := Lib.hid hpk
      have HAP := Lib.hid (show ByteArray.mk bb.toArray ++ r = s from ba_ext (by rw [list_app]; exact happ))
      have hszb : bb.length + r.size ≤ 600 := by
        have := congrArg List.length happ
        rw [List.length_append, size_list, size_list] at this
        omega
      clear hpk happ
      obtain ⟨i0, hi, hz0, hz1', hz2⟩ := info_parts info_fpart
      go_wp2
      go_loopw [21, 108] (fun v i wr => ∃ (j : Nat) (R : Option Addr) (rc : Nat), j ≤ vs.length ∧ i = .int .i64 j ∧ v = .slice R j rc ∧ wr.ownsRow w2.heap.size 27 2 (.slice R j rc) j (partCells ((zs.zip vs).take j)) ∧ Below w2.heap.size w2 wr) (fun _ i _ => vs.length - (intOf i).toNat)
      case atStart => exact ⟨0, none, 0, Nat.zero_le _, rfl, rfl, World.ownsRow_nil _ _ _ _, Below.refl _ _⟩
      case round =>
        obtain ⟨j, R, rc, hj, rfl, rfl, hown, hb⟩ := hrel
        by_cases hlt : j < vs.length
        · obtain ⟨a, rfl, ha, hac⟩ := (HR2.out.below hb) (by rw [length_nums]; omega)
          obtain ⟨z, rfl, hzb, hzc2⟩ := (HZ.out.below (HB2.out.trans (hb.mono hs2))) (by rw [length_ints]; omega)
          have d0 := hac _ _ (get_nums .u64 vs j hlt)
          have d1 := hzc2 _ _ (get_ints zs j (by omega))
          clear hac hzc2
          have hzl : j < (zs.zip vs).length := by rw [List.length_zip]; omega
          have e1 : partCells ((zs.zip vs).take (j + 1)) = partCells ((zs.zip vs).take j) ++ [.int .i64 zs[j], .int .u64 ((vs.getD j 0 : Nat) : Int)] := by
            rw [take_snocP _ j hzl]
            simp [partCells, hlt]
          generalize vs.getD j 0 = V at d0 e1
          generalize zs[j] = W at d1 e1
          have HE := Lib.hid e1; clear e1
          have hsz := hb.size
          have HB := Lib.hid hb; clear hb
          have HO := Lib.hid hown; clear hown
          have hjz : (j : Int) < (zs.length : Int) := by omega
          go_wp2_with (at_builtin; refine wpList_append_own _ rfl (.tmp 113) (.tmp 120) 22 rfl w2.heap.size 27 i0 (.agg #[.int .i64 0, .int .u64 0]) 2 16 Try.underlying22 hi hz0 hz1' hz2 rfl (by decide) _ _ _ rfl (HO.out.alloc _) ⟨wr.heap.size, 0, none⟩ 1 1 [.int .i64 W, .int .u64 (V : Int)] rfl rfl (cells_new _ _ _ _ _ rfl rfl) (by intro u hu; simp at hu; rcases hu with rfl | rfl <;> rfl) (by unfold maxLen; omega) (by omega) (by simp; omega) ?_; intro v' w3 hown' hgrow _)
          obtain ⟨R', c'', rfl⟩ := own_slice hown'
          have HB3 := Lib.hid (below_own (HB.out.alloc hsz _) (HO.out.alloc _) (by simp; omega) hgrow)
          have HO3 := Lib.hid hown'
          clear hown' hgrow
          go_roundw
          case rel =>
            refine ⟨j + 1, R', c'', by omega, by go_num, by go_num, ?_, HB3.out⟩
            rw [HE.out]
            exact HO3.out
          case measure => simp [intOf]; omega
        · obtain rfl : j = vs.length := by omega
          rw [List.take_of_length_le (by rw [List.length_zip]; omega)] at hown
          have hR := Rd.of_own hown
          have HR := Lib.hid hR; clear hR
          have hsz := hb.size
          have HB := Lib.hid hb; clear hb
          clear hown
          have hzl : (zs.zip vs).length = vs.length := by rw [List.length_zip]; omega
          have HPA := Lib.hid (pack_len (zs.zip vs) vs.length R rc wr HPK.out hzl (by omega) HR.out HV64.out)
          clear hzl
          go_wp2_with fail
          refine HPA.out.mono ?_
          rintro e w3 ⟨rfl, hb3⟩
          have HB3 := Lib.hid (HB2.out.trans ((HB.out.trans (hb3.mono hsz)).mono hs2))
          have hs3 := HB3.out.size
          clear hb3 HPA
          go_wp2_with fail
          refine (awake1 w3).mono ?_
          rintro e w4 ⟨rfl, hb4⟩
          have HB4 := Lib.hid (HB3.out.trans (hb4.mono hs3))
          clear hb4
          have hno : ¬ 9223372036854775807 < bb.length + r.size := by omega
          go_wp2
          go_ret
          exact ⟨ret_bool (by rw [HAP.out]; simp), HB4.out⟩
    · have ht : ((k2 : Int) != 0) = true := by simp [hk2]
      obtain rfl : vs = [] := splitR_not HS.out hk2
      go_wp2_with fail
      refine (awake1 w2).mono ?_
      rintro e w3 ⟨rfl, hb3⟩
      have HB3 := Lib.hid (HB2.out.trans (hb3.mono (by omega)))
      clear hb3
      go_wp2
      go_ret
      exact ⟨rfl, HB3.out⟩
end Go.Proofs.Ytkhaoclpomamlaa.Lw
