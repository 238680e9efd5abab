/-
  The walk of TallyPlays.
-/
import Derived.Test.YtaadpallnhgigaaTaE
import Derived.Test.YtaadpallnhgigaaTaO
import Derived.Test.YtaadpallnhgigaaRgK
namespace Go.Proofs.Ytaadpallnhgigaa.Ta
open Go.RowKit Go.Proofs.Ytaadpallnhgigaa.Bt Go.Proofs.Ytaadpallnhgigaa.Mm Go.Proofs.Ytaadpallnhgigaa.Fl Go.Proofs.Ytaadpallnhgigaa.Tg Go.Proofs.Ytaadpallnhgigaa.Lw Go.Proofs.Ytaadpallnhgigaa.Op

/-- a whole row of counters, read in a region that draws -/
theorem ld_any {ops : Array Oper} {S : World → Prop} {op : Oper} {a : Act} (hw : Region.wanted op (yielded ops a.tmps) = true) (x : Operand) (ho : op.op = .load 28 x)
    (g : Nat) (hx : a.eval x = .pointer (some ⟨g, 0, none⟩)) (f : Nat → Nat) (hS : ∀ w, S w → Blk w g 28 (cells f)) : YieldsIf Try.prog ops S op (.agg (cells f)) a :=
  .inl ⟨hw, fun w hw' => by
    unfold execOp
    simp only [ho, hx, Instr.loadAt, Instr.sureAddr, Sem.run_bind, Sem.run_pure, Result.andThen_ok, run_loadVar_row w g _ _ (cells f) (0, 0) _ (hS w hw') Try.underlying28 rfl (info_cells f)]⟩

theorem info_zero : (Try.prog.info? 28).map (·.size) = some zero16.size := by kernel_rfl
theorem hold_zero (f : Nat → Nat) : (cells f).size = zero16.size := size_cells f
theorem one_zero : zero16.all (·.oneCell') = true := by kernel_rfl
set_option linter.unusedSimpArgs false
set_option linter.unusedVariables false
set_option maxRecDepth 100000 in
set_option maxHeartbeats 2000000 in
theorem plays_walk (ps : List (Int × Nat × Bool)) (A : Option Addr) (c : Nat) (w : World) (hm : ps.length ≤ maxLen) (hA : Rd w w.heap.size A (actCells ps)) (hB : ∀ q ∈ ps, q.2.1 < 18446744073709551616) :
    Calls Try.prog 3 #[.slice A ps.length c] w (Law1 w) := by
  unfold maxLen at hm
  have HA := Lib.hid hA
  have HB := Lib.hid hB
  clear hA hB
  by_cases hl : (200 : Int) < (ps.length : Int)
  · go_enter Try.func3, Try.ntmps3
    go_wp2_with fail
    refine (new_any w).mono ?_
    rintro e w1 ⟨g, rfl, hgl, -, hbl⟩
    have HL := Lib.hid hbl
    clear hbl
    go_wp2_with fail
    refine (awake7 w1).mono ?_
    rintro e w2 ⟨rfl, hbl⟩
    have HL2 := Lib.hid (HL.out.trans (hbl.mono HL.out.size))
    clear hbl
    go_wp2
    go_ret
    exact ⟨rfl, HL2.out⟩
  · have hl2 : decide ((200 : Int) < (ps.length : Int)) = false := decide_eq_false hl
    go_enter Try.func3, Try.ntmps3
    go_wp2_with fail
    refine (new_any w).mono ?_
    rintro e w1 ⟨g, rfl, hgl, hb, hbl⟩
    have hg1 := hb.lt
    have HG := Lib.hid hb
    have HL := Lib.hid hbl
    clear hbl hb
    go_upto_region 5 with (fail)
    obtain ⟨w2, hw2, bm, bt, bb⟩ : ∃ w2 : World, w2 = w1.alloc (.cells zero16 28) ∧ Blk w2 w1.heap.size 28 (cells (fun _ => 0)) ∧ Blk w2 g 47 (cells (fun _ => 0)) ∧ Below w.heap.size w w2 :=
      ⟨_, rfl, Blk.fresh w1 _ (cells (fun _ => 0)), HG.out.alloc _, HL.out.alloc HL.out.size _⟩
    rw [← hw2]
    clear hw2
    have hsz := HL.out.size
    obtain ⟨m, hm0⟩ : ∃ m, m = w1.heap.size := ⟨_, rfl⟩
    rw [← hm0] at bm ⊢
    have hgm : g < m := by omega
    have hwm : w.heap.size ≤ m := by omega
    have HM := Lib.hid bm
    have HT := Lib.hid bt
    have HL2 := Lib.hid bb
    clear bm bt bb HG HL hsz hm0 hg1 w1
    go_wp2_with fail
    go_loopw [22] (fun i wr => ∃ (k : Nat) (f : Nat → Nat), k ≤ ps.length ∧ i = .int .i64 k ∧ Ok f ∧ Blk wr g 47 (cells f) ∧ Blk wr m 28 (cells f) ∧ Below w.heap.size w wr) (fun i _ => ps.length - (intOf i).toNat)
    case atStart => exact ⟨0, fun _ => 0, Nat.zero_le _, rfl, fun _ => Nat.succ_pos _, HT.out, HM.out, HL2.out⟩
    case round =>
      clear HM HT HL2
      obtain ⟨k, f, hk, rfl, hof, ht, hmm, hbl⟩ := hrel
      by_cases hlt : k < ps.length
      · obtain ⟨ad, rfl, hbk, hcell⟩ := (HA.out.below hbl) (by rw [length_actCells]; omega)
        have hcs := get_actCells ps k hlt
        have c0 := hcell _ _ hcs.1
        have c1 := hcell _ _ hcs.2.1
        have c2 := hcell _ _ hcs.2.2
        rw [add_succ] at c1
        rw [show k * 3 + 2 = (k * 3 + 1) + 1 by omega, add_succ, add_succ] at c2
        simp only at c2
        have hn := HB.out _ (List.getElem_mem hlt)
        obtain ⟨q, hq⟩ : ∃ q, q = ps[k] := ⟨_, rfl⟩
        rw [← hq] at c0 c1 c2 hn
        obtain ⟨kk, n, r⟩ := q
        simp only at c0 c1 c2 hn
        clear hcell hcs hq
        have hi : 0 ≤ (k : Int) ∧ (k : Int) < (ps.length : Int) := by omega
        have HT := Lib.hid ht
        have HM := Lib.hid hmm
        have HL := Lib.hid hbl
        have HO := Lib.hid hof
        clear ht hmm hbl hof
        go_upto_if 27 with (fail)
        obtain ⟨wx, hwx, bx, bt, bm, bb⟩ : ∃ wx : World, wx = wr.alloc (.cells #[.int .i64 kk, .int .u64 (n : Nat), .bool r] 30) ∧ Blk wx wr.heap.size 30 #[.int .i64 kk, .int .u64 (n : Nat), .bool r] ∧ Blk wx g 47 (cells f) ∧ Blk wx m 28 (cells f) ∧ Below w.heap.size w wx :=
          ⟨_, rfl, Blk.fresh _ _ _, HT.out.alloc _, HM.out.alloc _, HL.out.alloc HL.out.size _⟩
        rw [← hwx]
        clear hwx c0 c1 c2 hbk HA
        have hmr := HM.out.lt
        have hgr := HT.out.lt
        have hwr := HL.out.size
        obtain ⟨x, hx⟩ : ∃ x, x = wr.heap.size := ⟨_, rfl⟩
        rw [← hx] at bx hmr hgr hwr ⊢
        have HX := Lib.hid bx
        have HT1 := Lib.hid bt
        have HM1 := Lib.hid bm
        have HL1 := Lib.hid bb
        clear bx bt bm bb HT HM HL hx wr
        go_cut [] (fun wy => ∃ f', Ok f' ∧ Blk wy g 47 (cells f') ∧ Blk wy m 28 (cells f') ∧ Blk wy x 30 #[.int .i64 kk, .int .u64 (n : Nat), .bool r] ∧ Below w.heap.size w wy)
        case first =>
          cases r
          · obtain ⟨c0, c1, c2, z0, z1, z2⟩ := Rw3.row HX.out
            go_wp2_with fail
            refine (add_any f kk n g wx HO.out hn HT1.out).mono ?_
            rintro en w3 ⟨rfl, hb, ho⟩
            have HT3 := Lib.hid hb
            have HM3 := Lib.hid (HM1.out.grown ho (by intro e; injection e; omega))
            have HX3 := Lib.hid (HX.out.grown ho (by intro e; injection e; omega))
            have HL3 := Lib.hid (HL1.out.trans (ho.below hgl HL1.out.size))
            clear hb ho c0 c1 c2 z0 z1 z2
            obtain ⟨c0, c1, c2, z0, z1, z2⟩ := Rw3.row HX3.out
            go_wp2_with (refine wpList_load_row rfl 28 _ rfl _ rfl _ _ _ _ HM3.out Try.underlying28 rfl (info_cells f) ?_)
            refine (radd_any f kk n w3 HO.out hn).mono ?_
            rintro en w4 ⟨rfl, hbc⟩
            have HT4 := Lib.hid (HT3.out.below hbc HT3.out.lt)
            have HM4 := Lib.hid (HM3.out.below hbc HM3.out.lt)
            have HX4 := Lib.hid (HX3.out.below hbc HX3.out.lt)
            have HL4 := Lib.hid (HL3.out.trans (hbc.mono HL3.out.size))
            clear hbc c0 c1 c2 z0 z1 z2
            go_wp2_with (refine wpList_store_row rfl 28 _ _ rfl _ _ rfl rfl _ _ HM4.out (info_cells (addF f kk n)) (by rw [size_cells, size_cells]) (one_cells (addF f kk n)) ?_)
            go_meet
            exact ⟨addF f kk n, HO.out.add _ _, far_row HT4.out (by omega) _, blk_row HM4.out _, far_row HX4.out (by omega) _, row_below HL4.out hwm _⟩
          · go_upto_region 9 with (fail)
            obtain ⟨wa, hwa⟩ : ∃ wa, wa = wx.drew := ⟨_, rfl⟩
            have HTA := Lib.hid (show Blk wa g 47 (cells f) by rw [hwa]; exact HT1.out.drew)
            have HBA := Lib.hid (show Below w.heap.size w wa by rw [hwa]; exact HL1.out.drew)
            have KS := Lib.hid ((Rg.Keeps.one m 28 (cells f)).blk x 30 #[.int .i64 kk, .int .u64 (n : Nat), .bool true])
            refine wp_region_held_drew (S := fun wz => Blk wz m 28 (cells f) ∧ Blk wz x 30 #[.int .i64 kk, .int .u64 (n : Nat), .bool true]) (by kernel_rfl) ⟨HM1.out, HX.out⟩ (fun hHeld => ?_)
            rw [← hwa] at hHeld ⊢
            have HWA := Lib.hid hwa
            clear hwa
            refine wpAnyH_take (i := 0) (oi := _) (v := ?_) rfl (by kernel_rfl) (by kernel_rfl) (by kernel_rfl) (fun _ _ _ h => h) (Or.inl ⟨by rfl, ?_⟩) (by assumption) ?_
            rotate_left
            · intro wx hSx
              go_simp
              all_goals with_reducible rfl
            simp only [Act.put, List.setIfInBounds_toArray, List.set_cons_zero, List.set_cons_succ, List.getElem_toArray, List.getElem_cons_zero, List.getElem_cons_succ]
            refine wpAnyH_take (i := 2) (oi := _) (v := .agg (cells f)) rfl (by kernel_rfl) (by kernel_rfl) (by kernel_rfl) (fun _ _ _ h => h) (ld_any (by rfl) (.tmp 4) rfl m rfl f (fun _ hSx => hSx.1)) (by assumption) ?_
            simp only [Act.put, List.setIfInBounds_toArray, List.set_cons_zero, List.set_cons_succ, List.getElem_toArray, List.getElem_cons_zero, List.getElem_cons_succ]
            refine wpAnyH_ready (rs := [1]) (by kernel_rfl) (by simp) ?_
            refine AllReadyH.cons (o := _) rfl (fun K hK => ?_) ?_
            · go_simp
              refine (reset_any f g wa HTA.out).mono ?_
              rintro en wr1 ⟨b, rfl, hwb, hrow, hz, hon⟩
              go_wp2_with fail
              refine hK.out _ _ ⟨hHeld.1.grown hon (by intro e; injection e; omega), hHeld.2.grown hon (by intro e; injection e; omega)⟩ (fun hHeld => ?_)
              clear hK K
              have HRW := Lib.hid hrow
              have HT9 := Lib.hid hz
              have HBR := Lib.hid (HBA.out.trans (hon.below hgl HBA.out.size))
              clear hrow hz hon hwb
              try simp only [List.setIfInBounds_toArray, List.set_cons_zero, List.set_cons_succ]
              refine wpAnyH_ready (rs := [3]) (by kernel_rfl) (by simp) ?_
              refine AllReadyH.cons (o := _) rfl (fun K hK => ?_) ?_
              · go_simp
                have HT10 := Lib.hid HT9.out
                refine (same_any f b wr1 HRW.out).mono ?_
                rintro en wr2 ⟨rfl, hbc⟩
                have HT10 := Lib.hid (HT9.out.below hbc HT9.out.lt)
                go_wp2_with fail
                refine Rg.st_call hK hHeld KS.out HBR.out hbc ?_
                clear hK K
                intro hHeld hbr
                have HBR := Lib.hid hbr
                clear hbr hbc
                try simp only [List.setIfInBounds_toArray, List.set_cons_zero, List.set_cons_succ]
                refine wpAnyH_take (i := 4) (oi := _) (v := ?_) rfl (by kernel_rfl) (by kernel_rfl) (by kernel_rfl) (fun _ _ _ h => h) (Or.inl ⟨by rfl, ?_⟩) (by assumption) ?_
                rotate_left
                · intro wx hSx
                  go_simp
                  all_goals with_reducible rfl
                simp only [Act.put, List.setIfInBounds_toArray, List.set_cons_zero, List.set_cons_succ, List.getElem_toArray, List.getElem_cons_zero, List.getElem_cons_succ]
                refine wpAnyH_done (by kernel_rfl) ?_ _
                have HM10 := Lib.hid hHeld.1
                have HX10 := Lib.hid hHeld.2
                go_wp2_with (refine wpList_store_row rfl 28 _ _ rfl _ zero16 rfl rfl _ _ HM10.out info_zero (hold_zero f) one_zero ?_)
                go_meet
                exact ⟨fun _ => 0, fun _ => Nat.succ_pos _, far_row HT10.out (by omega) _, blk_row HM10.out zero16, far_row HX10.out (by omega) _, row_below HBR.out hwm _⟩
              exact AllReadyH.nil
            exact AllReadyH.nil
        case rest =>
          obtain ⟨f', hof, ht, hmm, hxx, hbl⟩ := hcut
          have HL5 := Lib.hid hbl
          have HT5 := Lib.hid ht
          have HM5 := Lib.hid hmm
          have HX5 := Lib.hid hxx
          have HO5 := Lib.hid hof
          clear hbl ht hmm hxx hof HT1 HM1 HX HL1
          obtain ⟨G, hG⟩ : ∃ G, G = getF f' kk := ⟨_, rfl⟩
          have HG := Lib.hid hG.symm
          clear hG
          go_upto_region 14 with (fail)
          obtain ⟨wa, hwa⟩ : ∃ wa, wa = wc.drew := ⟨_, rfl⟩
          have HBR := Lib.hid (show Below w.heap.size w wa by rw [hwa]; exact HL5.out.drew)
          have KS := Lib.hid (((Rg.Keeps.one g 47 (cells f')).blk m 28 (cells f')).blk x 30 #[.int .i64 kk, .int .u64 (n : Nat), .bool r])
          refine wp_region_held_drew (S := fun wz => (Blk wz g 47 (cells f') ∧ Blk wz m 28 (cells f')) ∧ Blk wz x 30 #[.int .i64 kk, .int .u64 (n : Nat), .bool r]) (by kernel_rfl) ⟨⟨HT5.out, HM5.out⟩, HX5.out⟩ (fun hHeld => ?_)
          rw [← hwa] at hHeld ⊢
          have HWA := Lib.hid hwa
          clear hwa
          refine wpAnyH_take (i := 0) (oi := _) (v := ?_) rfl (by kernel_rfl) (by kernel_rfl) (by kernel_rfl) (fun _ _ _ h => h) (Or.inl ⟨by rfl, ?_⟩) (by assumption) ?_
          rotate_left
          · intro wx hSx
            go_simp
            all_goals with_reducible rfl
          simp only [Act.put, List.setIfInBounds_toArray, List.set_cons_zero, List.set_cons_succ, List.getElem_toArray, List.getElem_cons_zero, List.getElem_cons_succ]
          refine wpAnyH_take (i := 2) (oi := _) (v := .agg (cells f')) rfl (by kernel_rfl) (by kernel_rfl) (by kernel_rfl) (fun _ _ _ h => h) (ld_any (by rfl) (.tmp 4) rfl m rfl f' (fun _ hSx => hSx.1.2)) (by assumption) ?_
          simp only [Act.put, List.setIfInBounds_toArray, List.set_cons_zero, List.set_cons_succ, List.getElem_toArray, List.getElem_cons_zero, List.getElem_cons_succ]
          refine wpAnyH_ready (rs := [1]) (by kernel_rfl) (by simp) ?_
          refine AllReadyH.cons (o := _) rfl (fun K hK => ?_) ?_
          · go_simp
            refine (all_any f' g wa hHeld.1.1).mono ?_
            rintro en wr1 ⟨b, rfl, hrow, hbc⟩
            have HRW := Lib.hid hrow
            clear hrow
            go_wp2_with fail
            refine Rg.st_call hK hHeld KS.out HBR.out hbc ?_
            clear hK K
            intro hHeld hbr
            have HBR := Lib.hid hbr
            clear hbr hbc
            try simp only [List.setIfInBounds_toArray, List.set_cons_zero, List.set_cons_succ]
            refine wpAnyH_ready (rs := [3]) (by kernel_rfl) (by simp) ?_
            refine AllReadyH.cons (o := _) rfl (fun K hK => ?_) ?_
            · go_simp
              refine (same_any f' b wr1 HRW.out).mono ?_
              rintro en wr2 ⟨rfl, hbc⟩
              go_wp2_with fail
              refine Rg.st_call hK hHeld KS.out HBR.out hbc ?_
              clear hK K
              intro hHeld hbr
              have HBR := Lib.hid hbr
              clear hbr hbc
              try simp only [List.setIfInBounds_toArray, List.set_cons_zero, List.set_cons_succ]
              refine wpAnyH_take (i := 4) (oi := _) (v := ?_) rfl (by kernel_rfl) (by kernel_rfl) (by kernel_rfl) (fun _ _ _ h => h) (Or.inl ⟨by rfl, ?_⟩) (by assumption) ?_
              rotate_left
              · intro wx hSx
                go_simp
                all_goals with_reducible rfl
              simp only [Act.put, List.setIfInBounds_toArray, List.set_cons_zero, List.set_cons_succ, List.getElem_toArray, List.getElem_cons_zero, List.getElem_cons_succ]
              refine wpAnyH_take (i := 5) (oi := _) (v := ?_) rfl (by kernel_rfl) (by kernel_rfl) (by kernel_rfl) (fun _ _ _ h => h) (Or.inl ⟨by rfl, ?_⟩) (by assumption) ?_
              rotate_left
              · intro wx hSx
                go_simp
                all_goals with_reducible rfl
              simp only [Act.put, List.setIfInBounds_toArray, List.set_cons_zero, List.set_cons_succ, List.getElem_toArray, List.getElem_cons_zero, List.getElem_cons_succ]
              refine wpAnyH_take (i := 6) (oi := _) (v := ?_) rfl (by kernel_rfl) (by kernel_rfl) (by kernel_rfl) (fun _ _ _ h => h) (Or.inl ⟨by rfl, ?_⟩) (by assumption) ?_
              rotate_left
              · intro wx hSx
                go_simp
                all_goals with_reducible rfl
              simp only [Act.put, List.setIfInBounds_toArray, List.set_cons_zero, List.set_cons_succ, List.getElem_toArray, List.getElem_cons_zero, List.getElem_cons_succ]
              refine wpAnyH_take (i := 7) (oi := _) (v := ?_) rfl (by kernel_rfl) (by kernel_rfl) (by kernel_rfl) (fun _ _ _ h => h) (Or.inl ⟨by rfl, ?_⟩) (by assumption) ?_
              rotate_left
              · intro wx hSx
                go_simp
                all_goals with_reducible rfl
              simp only [Act.put, List.setIfInBounds_toArray, List.set_cons_zero, List.set_cons_succ, List.getElem_toArray, List.getElem_cons_zero, List.getElem_cons_succ]
              refine wpAnyH_take (i := 8) (oi := _) (v := ?_) rfl (by kernel_rfl) (by kernel_rfl) (by kernel_rfl) (fun _ _ _ h => h) (Or.inl ⟨by rfl, ?_⟩) (by assumption) ?_
              rotate_left
              · intro wx hSx
                obtain ⟨c0, c1, c2, _⟩ := Rw3.row hSx.2; go_simp
                all_goals with_reducible rfl
              simp only [Act.put, List.setIfInBounds_toArray, List.set_cons_zero, List.set_cons_succ, List.getElem_toArray, List.getElem_cons_zero, List.getElem_cons_succ]
              refine wpAnyH_take (i := 10) (oi := _) (v := .agg (cells f')) rfl (by kernel_rfl) (by kernel_rfl) (by kernel_rfl) (fun _ _ _ h => h) (ld_any (by rfl) (.tmp 4) rfl m rfl f' (fun _ hSx => hSx.1.2)) (by assumption) ?_
              simp only [Act.put, List.setIfInBounds_toArray, List.set_cons_zero, List.set_cons_succ, List.getElem_toArray, List.getElem_cons_zero, List.getElem_cons_succ]
              refine wpAnyH_take (i := 11) (oi := _) (v := ?_) rfl (by kernel_rfl) (by kernel_rfl) (by kernel_rfl) (fun _ _ _ h => h) (Or.inl ⟨by rfl, ?_⟩) (by assumption) ?_
              rotate_left
              · intro wx hSx
                go_simp
                all_goals with_reducible rfl
              simp only [Act.put, List.setIfInBounds_toArray, List.set_cons_zero, List.set_cons_succ, List.getElem_toArray, List.getElem_cons_zero, List.getElem_cons_succ]
              refine wpAnyH_take (i := 12) (oi := _) (v := ?_) rfl (by kernel_rfl) (by kernel_rfl) (by kernel_rfl) (fun _ _ _ h => h) (Or.inl ⟨by rfl, ?_⟩) (by assumption) ?_
              rotate_left
              · intro wx hSx
                obtain ⟨c0, c1, c2, _⟩ := Rw3.row hSx.2; go_simp
                all_goals with_reducible rfl
              simp only [Act.put, List.setIfInBounds_toArray, List.set_cons_zero, List.set_cons_succ, List.getElem_toArray, List.getElem_cons_zero, List.getElem_cons_succ]
              refine wpAnyH_ready (rs := [9]) (by kernel_rfl) (by simp) ?_
              refine AllReadyH.cons (o := _) rfl (fun K hK => ?_) ?_
              · go_simp
                refine (get_any f' kk g wr2 hHeld.1.1).mono ?_
                rintro en wr2 ⟨rfl, rfl⟩
                have hbc := Below.refl wr2.heap.size wr2
                rw [HG.out]
                go_wp2_with fail
                refine Rg.st_call hK hHeld KS.out HBR.out hbc ?_
                clear hK K
                intro hHeld hbr
                have HBR := Lib.hid hbr
                clear hbr hbc
                try simp only [List.setIfInBounds_toArray, List.set_cons_zero, List.set_cons_succ]
                refine wpAnyH_ready (rs := [13]) (by kernel_rfl) (by simp) ?_
                refine AllReadyH.cons (o := _) rfl (fun K hK => ?_) ?_
                · go_simp
                  refine (rget_any f' kk wr2).mono ?_
                  rintro en wr4 ⟨rfl, hbc⟩
                  rw [HG.out]
                  go_wp2_with fail
                  refine Rg.st_call hK hHeld KS.out HBR.out hbc ?_
                  clear hK K
                  intro hHeld hbr
                  have HBR := Lib.hid hbr
                  clear hbr hbc
                  try simp only [List.setIfInBounds_toArray, List.set_cons_zero, List.set_cons_succ]
                  refine wpAnyH_take (i := 14) (oi := _) (v := ?_) rfl (by kernel_rfl) (by kernel_rfl) (by kernel_rfl) (fun _ _ _ h => h) (Or.inl ⟨by rfl, ?_⟩) (by assumption) ?_
                  rotate_left
                  · intro wx hSx
                    go_simp
                    all_goals with_reducible rfl
                  simp only [Act.put, List.setIfInBounds_toArray, List.set_cons_zero, List.set_cons_succ, List.getElem_toArray, List.getElem_cons_zero, List.getElem_cons_succ]
                  refine wpAnyH_take (i := 15) (oi := _) (v := ?_) rfl (by kernel_rfl) (by kernel_rfl) (by kernel_rfl) (fun _ _ _ h => h) (Or.inl ⟨by rfl, ?_⟩) (by assumption) ?_
                  rotate_left
                  · intro wx hSx
                    go_simp
                    all_goals with_reducible rfl
                  simp only [Act.put, List.setIfInBounds_toArray, List.set_cons_zero, List.set_cons_succ, List.getElem_toArray, List.getElem_cons_zero, List.getElem_cons_succ]
                  refine wpAnyH_done (by kernel_rfl) ?_ _
                  have HTE := Lib.hid hHeld.1.1
                  have HME := Lib.hid hHeld.1.2
                  go_wp2
                  exact ⟨⟨k + 1, f', by omega, by go_num, HO5.out, HTE.out, HME.out, HBR.out⟩, by simp [intOf]; omega⟩
                exact AllReadyH.nil
              exact AllReadyH.nil
            exact AllReadyH.nil
          exact AllReadyH.nil
      · have HL := Lib.hid hbl
        clear ht hmm hbl hof
        go_wp2_with fail
        refine (awake7 wr).mono ?_
        rintro e w2 ⟨rfl, hbl⟩
        have HL2 := Lib.hid (HL.out.trans (hbl.mono HL.out.size))
        clear hbl
        go_wp2
        go_ret
        exact ⟨rfl, HL2.out⟩
end Go.Proofs.Ytaadpallnhgigaa.Ta
