/-
  Tables, the document's: Sweep, Flush.
-/
import Derived.Test.YtljkodfdiebfiaaFdbH
import Derived.Test.YtljkodfdiebfiaaFdbI
namespace Go.Proofs.Ytljkodfdiebfiaa.Fd
open Go.RowKit Go.Proofs.Ytljkodfdiebfiaa.Mm Go.Proofs.Ytljkodfdiebfiaa.Tg

theorem info_rt : (Try.prog.info? 34).map (·.size) = some 3 := by kernel_rfl
theorem info_rr : (Try.prog.info? 66).map (fun i => (i.zero, i.size, i.bytes)) = some (some (.agg #[.int .u16 0, .int .u64 0, .int .i64 0, .int .i64 0]), 4, 32) := by kernel_rfl
abbrev noR : Array Value := rtC 0 0 none 0 0
/-- cells of a slice keep while other blocks are made or written -/
theorem Rd.grown' {w w' : World} {B : Nat} {A : Option Addr} {xs : List Value} {row : Option Nat} (h : Rd w B A xs) (hg : w.grownBy w' row) (hB : B ≤ w.heap.size) (hr : ∀ k, row = some k → B ≤ k) : Rd w' B A xs :=
  h.keep fun p hp => World.cell?_of_block (hg.block _ (by omega) (fun e => by have := hr _ e.symm; omega))
theorem filter_take (l : List Fr) (p : Fr → Bool) (k : Nat) (hk : k < l.length) : (l.take (k + 1)).filter p = (l.take k).filter p ++ if p l[k] then [l[k]] else [] := by
  rw [List.take_succ_eq_append_getElem hk, List.filter_append]
  congr 1
  cases h : p l[k] <;> simp [h]
theorem filter_len (l : List Fr) (p : Fr → Bool) (k : Nat) : ((l.take k).filter p).length ≤ k := Nat.le_trans (List.length_filter_le _ _) (by rw [List.length_take]; omega)

set_option maxRecDepth 100000 in
set_option maxHeartbeats 4000000 in
theorem rsweep_any {room age now : Int} {A : Option Addr} {c n : Nat} {l : List Fr} {w : World} (hA : Rd w w.heap.size A (rowCs l)) (hn : n = l.length) (hl : n ≤ 1024) (hs : ∀ x ∈ l, 0 ≤ x.seen ∧ x.seen ≤ 1099511627776) (hw : 0 ≤ now ∧ now ≤ 1099511627776) :
    Calls Try.prog 12 #[rtV room age A n c, .int .i64 now] w fun e w' => ∃ A' c', e = .returned (rtV room age A' (sweepR l now age).length c') ∧ Rd w' w'.heap.size A' (rowCs (sweepR l now age)) ∧ Below w.heap.size w w' := by
  have HA0 := Lib.hid hA; have HN := Lib.hid hn
  clear hA hn
  obtain ⟨i0, hi, hz0, hz1, hz2⟩ := info_parts info_rr
  obtain ⟨p, hp⟩ : ∃ p : Fr → Bool, p = fun x => decide (now - x.seen < age) := ⟨_, rfl⟩
  have HP : Hid (∀ x, p x = (decide (now - x.seen < age))) := Lib.hid (fun x => by rw [hp])
  rw [show sweepR l now age = l.filter p by rw [hp]; rfl]
  clear hp
  go_enter Try.func12, Try.ntmps12
  go_upto_region 1 with (fail)
  have HT := Lib.hid (blk_two w 34 34 (rtC room age A n c) noR)
  have HR := Lib.hid (fresh_second w (.cells (rtC room age A n c) 34) 34 noR)
  have HB := Lib.hid (below_two w (.cells (rtC room age A n c) 34) (.cells noR 34))
  have HA := Lib.hid (HA0.out.below HB.out)
  generalize (w.alloc (.cells (rtC room age A n c) 34)).alloc (.cells noR 34) = w0 at HT HR HB HA ⊢
  obtain ⟨base, hbase⟩ : ∃ base, base = w0.heap.size := ⟨_, rfl⟩
  have L1 : w.heap.size + 1 < base := by rw [hbase]; exact HR.out.lt
  have LB : base ≤ w0.heap.size := by omega
  cases Rw3.row HT.out
  go_wp2_with fail
  go_loopw [5, 6] (fun o i wr => ∃ (k : Nat) (R : Option Addr) (rc : Nat), k ≤ n ∧ i = .int .i64 k ∧ o = .slice R ((l.take k).filter p).length rc ∧ wr.ownsRow base 66 4 (.slice R ((l.take k).filter p).length rc) ((l.take k).filter p).length (rowCs ((l.take k).filter p)) ∧ base ≤ wr.heap.size ∧ Below base w0 wr) (fun _ i _ => n - (intOf i).toNat)
  case atStart => exact ⟨0, none, 0, Nat.zero_le _, rfl, rfl, World.ownsRow_nil _ _ _ _, LB, Below.refl _ _⟩
  case round =>
    obtain ⟨k, R, rc, hk, rfl, rfl, hown, hbs, hbw⟩ := hrel
    have HO := Lib.hid hown; have HBw := Lib.hid hbw
    clear hown hbw
    have HTw := Lib.hid (HT.out.below HBw.out (by omega))
    have HRw := Lib.hid (HR.out.below HBw.out (by omega))
    have HAw := Lib.hid (HA.out.keep (fun q hq => HBw.out.cell (by omega)))
    by_cases hlt : k < n
    · have hkl : k < l.length := by rw [← HN.out]; exact hlt
      have hfl := filter_len l p k
      have HFT := Lib.hid (filter_take l p k hkl)
      obtain ⟨ad, hAd, hbl, c0, c1, c2, c3⟩ := rd_row HAw.out (List.getElem?_eq_getElem hkl)
      subst hAd
      have HX : Hid (l[k] ∈ l) := Lib.hid (List.getElem_mem hkl)
      obtain ⟨x, hx⟩ : ∃ x, x = l[k] := ⟨_, rfl⟩
      rw [← hx] at c0 c1 c2 c3 HX HFT
      clear hx
      obtain ⟨xv, xa, xp, S⟩ := x
      dsimp only at c0 c1 c2 c3
      have HPx : Hid (p ⟨xv, xa, xp, S⟩ = (decide (now - S < age))) := Lib.hid (HP.out ⟨xv, xa, xp, S⟩)
      have h1 : 0 ≤ S ∧ S ≤ 1099511627776 := hs _ HX.out
      obtain ⟨y, hyy⟩ : ∃ y, y = now - S := ⟨_, rfl⟩
      have hy : IntKind.i64.wrap (now - S) = y := by rw [IntKind.wrap_i64]; omega
      have HY := Lib.hid hyy
      clear hyy h1
      by_cases hd : y < age
      · have d1 : decide (y < age) = true := decide_eq_true hd
        have htr : decide (now - S < age) = true := by rw [← HY.out]; exact d1
        have HTR := Lib.hid htr
        clear htr hd
        cases Rw3.row HTw.out
        go_upto_region 5 with (fail)
        go_quiet (fail)
        have HO := Lib.hid (own_drewN HO.out nq)
        have HBw := Lib.hid (below_drewN HBw.out nq)
        go_wp2_with (at_builtin; refine wpList_append_own _ rfl (.tmp 25) (.tmp 31) 32 rfl base 66 i0 (.agg #[.int .u16 0, .int .u64 0, .int .i64 0, .int .i64 0]) 4 32 Try.underlying32 hi hz0 hz1 hz2 rfl (by decide) _ _ _ rfl (HO.out.alloc _) ⟨(wr.drewN nq).heap.size, 0, none⟩ 1 1 (e4 ⟨xv, xa, xp, S⟩) rfl rfl (cells_new _ _ _ _ _ rfl rfl) (e4_one _) (by unfold maxLen; omega) (by omega) (by simp; omega) ?_; intro v' w5 hown' hgrow _)
        obtain ⟨R', c', rfl⟩ := own_slice hown'
        have hlo := (HO.out.alloc (.cells (e4 ⟨xv, xa, xp, S⟩).toArray 66)).lt
        have HB5 := Lib.hid ((HBw.out.alloc hbs (.cells (e4 ⟨xv, xa, xp, S⟩).toArray 66)).grown hgrow (by simp; omega) (fun k hk => (hlo k hk).1))
        have HO5 := Lib.hid hown'
        have L5 : base ≤ w5.heap.size := Nat.le_trans (by simp; omega) hgrow.size
        rw [HPx.out, if_pos HTR.out] at HFT
        clear hown' hgrow hlo
        go_roundw
        case rel =>
          refine ⟨k + 1, R', c', by omega, by go_num, ?_, ?_, L5, HB5.out⟩
          · rw [HFT.out, List.length_append]; rfl
          · rw [HFT.out, List.length_append, rowCs_app, rowCs_one]; exact HO5.out
        case measure => simp [intOf]; omega
      · have d1 : decide (y < age) = false := decide_eq_false hd
        have hfa : ¬ decide (now - S < age) = true := by rw [← HY.out, d1]; simp
        have HFA := Lib.hid hfa
        clear hfa hd
        cases Rw3.row HTw.out
        go_upto_region 5 with (fail)
        go_quiet (fail)
        go_wp2
        rw [HPx.out, if_neg HFA.out, List.append_nil] at HFT
        go_roundw
        case rel => exact ⟨k + 1, R, rc, by omega, by go_num, by rw [HFT.out], by rw [HFT.out]; exact HO.out, hbs, (below_drewN HBw.out nq)⟩
        case measure => simp [intOf]; omega
    · have ek : n = k := by omega
      have hsz := HO.out
      rw [show l.take k = l by rw [← ek, HN.out]; exact List.take_length] at hsz ⊢
      have HS := Lib.hid hsz
      clear hsz ek
      have HBe := Lib.hid (HB.out.trans (HBw.out.mono (by omega)))
      cases Rw3.row HTw.out
      go_upto_region 8 with (fail)
      have hT2 : Blk _ w.heap.size 34 (rtC room age R (l.filter p).length rc) := HTw.out.put 2 (.slice R (l.filter p).length rc)
      have HT2 := Lib.hid hT2
      have HR2 := Lib.hid (HRw.out.far (p := ⟨w.heap.size, 2, none⟩) (by simp) (.slice R (l.filter p).length rc))
      have HB2 := Lib.hid (HBe.out.setCell (p := ⟨w.heap.size, 2, none⟩) (Nat.le_refl _) (.slice R (l.filter p).length rc))
      have HS2 := Lib.hid (HS.out.kept ((Only.refl w.heap.size wr).put 2 (.slice R (l.filter p).length rc)) (.inr (fun e => by have := (HS.out.lt _ e).1; omega)))
      clear hT2
      generalize wr.setCell ⟨w.heap.size, 2, none⟩ (.slice R (l.filter p).length rc) = w2 at HT2 HR2 HB2 HS2 ⊢
      cases Rw3.row HT2.out
      cases Rw3.row HR2.out
      go_wp2
      (try simp only [Exit.inBlock, Exit.then]); refine bodyPost_ret (results_cell_row rfl _ _ (w.heap.size + 1) 34 _ (0, 0) _ rfl (Rw3.blk_set HR2.out _ _ _) Try.underlying34 rfl info_rt) rfl ?_
      have HS3 := HS2.out.kept ((((Only.refl (w.heap.size + 1) w2).put 0 (.int .i64 room)).put 1 (.int .i64 age)).put 2 (.slice R (l.filter p).length rc)) (.inr (fun e => by have := (HS2.out.lt _ e).1; omega))
      exact ⟨R, rc, rfl, Rd.of_own HS3, Rw3.below_set HB2.out (by omega) _ _ _⟩

set_option maxRecDepth 100000 in
set_option maxHeartbeats 4000000 in
theorem rflush_any {room age port : Int} {A : Option Addr} {c n : Nat} {l : List Fr} {w : World} (hA : Rd w w.heap.size A (rowCs l)) (hn : n = l.length) (hl : n ≤ 1024) :
    Calls Try.prog 14 #[rtV room age A n c, .int .i64 port] w fun e w' => ∃ A' c', e = .returned (rtV room age A' (flushR l port).length c') ∧ Rd w' w'.heap.size A' (rowCs (flushR l port)) ∧ Below w.heap.size w w' := by
  have HA0 := Lib.hid hA; have HN := Lib.hid hn
  clear hA hn
  obtain ⟨i0, hi, hz0, hz1, hz2⟩ := info_parts info_rr
  obtain ⟨p, hp⟩ : ∃ p : Fr → Bool, p = fun x => decide (0 ≤ port) && (x.port != port) := ⟨_, rfl⟩
  have HP : Hid (∀ x, p x = (decide (0 ≤ port) && (x.port != port))) := Lib.hid (fun x => by rw [hp])
  rw [show flushR l port = l.filter p by rw [hp]; rfl]
  clear hp
  go_enter Try.func14, Try.ntmps14
  go_upto_region 1 with (fail)
  have HT := Lib.hid (blk_two w 34 34 (rtC room age A n c) noR)
  have HR := Lib.hid (fresh_second w (.cells (rtC room age A n c) 34) 34 noR)
  have HB := Lib.hid (below_two w (.cells (rtC room age A n c) 34) (.cells noR 34))
  have HA := Lib.hid (HA0.out.below HB.out)
  generalize (w.alloc (.cells (rtC room age A n c) 34)).alloc (.cells noR 34) = w0 at HT HR HB HA ⊢
  obtain ⟨base, hbase⟩ : ∃ base, base = w0.heap.size := ⟨_, rfl⟩
  have L1 : w.heap.size + 1 < base := by rw [hbase]; exact HR.out.lt
  have LB : base ≤ w0.heap.size := by omega
  cases Rw3.row HT.out
  go_wp2_with fail
  go_loopw [5, 6] (fun o i wr => ∃ (k : Nat) (R : Option Addr) (rc : Nat), k ≤ n ∧ i = .int .i64 k ∧ o = .slice R ((l.take k).filter p).length rc ∧ wr.ownsRow base 66 4 (.slice R ((l.take k).filter p).length rc) ((l.take k).filter p).length (rowCs ((l.take k).filter p)) ∧ base ≤ wr.heap.size ∧ Below base w0 wr) (fun _ i _ => n - (intOf i).toNat)
  case atStart => exact ⟨0, none, 0, Nat.zero_le _, rfl, rfl, World.ownsRow_nil _ _ _ _, LB, Below.refl _ _⟩
  case round =>
    obtain ⟨k, R, rc, hk, rfl, rfl, hown, hbs, hbw⟩ := hrel
    have HO := Lib.hid hown; have HBw := Lib.hid hbw
    clear hown hbw
    have HTw := Lib.hid (HT.out.below HBw.out (by omega))
    have HRw := Lib.hid (HR.out.below HBw.out (by omega))
    have HAw := Lib.hid (HA.out.keep (fun q hq => HBw.out.cell (by omega)))
    by_cases hlt : k < n
    · have hkl : k < l.length := by rw [← HN.out]; exact hlt
      have hfl := filter_len l p k
      have HFT := Lib.hid (filter_take l p k hkl)
      obtain ⟨ad, hAd, hbl, c0, c1, c2, c3⟩ := rd_row HAw.out (List.getElem?_eq_getElem hkl)
      subst hAd
      have HX : Hid (l[k] ∈ l) := Lib.hid (List.getElem_mem hkl)
      obtain ⟨x, hx⟩ : ∃ x, x = l[k] := ⟨_, rfl⟩
      rw [← hx] at c0 c1 c2 c3 HX HFT
      clear hx
      obtain ⟨xv, xa, xp, S⟩ := x
      dsimp only at c0 c1 c2 c3
      have HPx : Hid (p ⟨xv, xa, xp, S⟩ = (decide (0 ≤ port) && (xp != port))) := Lib.hid (HP.out ⟨xv, xa, xp, S⟩)
      clear hfl
      have hfl := filter_len l p k
      by_cases hp0 : 0 ≤ port
      · have d0 : decide (0 ≤ port) = true := decide_eq_true hp0
        by_cases he : xp = port
        · have q1 : (xp != port) = false := by simp [he]
          have hfa : ¬ (decide (0 ≤ port) && (xp != port)) = true := by rw [q1]; simp
          have HFA := Lib.hid hfa
          clear hfa he hp0
          cases Rw3.row HTw.out
          go_wp2
          rw [HPx.out, if_neg HFA.out, List.append_nil] at HFT
          go_roundw
          case rel => exact ⟨k + 1, R, rc, by omega, by go_num, by rw [HFT.out], by rw [HFT.out]; exact HO.out, hbs, HBw.out⟩
          case measure => simp [intOf]; omega
        · have q1 : (xp != port) = true := by simpa using he
          have htr : (decide (0 ≤ port) && (xp != port)) = true := by rw [d0, q1]; rfl
          have HTR := Lib.hid htr
          clear htr he hp0
          cases Rw3.row HTw.out
          go_wp2_with (at_builtin; refine wpList_append_own _ rfl (.tmp 26) (.tmp 32) 32 rfl base 66 i0 (.agg #[.int .u16 0, .int .u64 0, .int .i64 0, .int .i64 0]) 4 32 Try.underlying32 hi hz0 hz1 hz2 rfl (by decide) _ _ _ rfl (HO.out.alloc _) ⟨wr.heap.size, 0, none⟩ 1 1 (e4 ⟨xv, xa, xp, S⟩) rfl rfl (cells_new _ _ _ _ _ rfl rfl) (e4_one _) (by unfold maxLen; omega) (by omega) (by simp; omega) ?_; intro v' w5 hown' hgrow _)
          obtain ⟨R', c', rfl⟩ := own_slice hown'
          have hlo := (HO.out.alloc (.cells (e4 ⟨xv, xa, xp, S⟩).toArray 66)).lt
          have HB5 := Lib.hid ((HBw.out.alloc hbs (.cells (e4 ⟨xv, xa, xp, S⟩).toArray 66)).grown hgrow (by simp; omega) (fun k hk => (hlo k hk).1))
          have HO5 := Lib.hid hown'
          have L5 : base ≤ w5.heap.size := Nat.le_trans (by simp; omega) hgrow.size
          rw [HPx.out, if_pos HTR.out] at HFT
          clear hown' hgrow hlo
          go_roundw
          case rel =>
            refine ⟨k + 1, R', c', by omega, by go_num, ?_, ?_, L5, HB5.out⟩
            · rw [HFT.out, List.length_append]; rfl
            · rw [HFT.out, List.length_append, rowCs_app, rowCs_one]; exact HO5.out
          case measure => simp [intOf]; omega
      · have d0 : decide (0 ≤ port) = false := decide_eq_false hp0
        have hfa : ¬ (decide (0 ≤ port) && (xp != port)) = true := by rw [d0]; simp
        have HFA := Lib.hid hfa
        clear hfa hp0
        cases Rw3.row HTw.out
        go_wp2
        rw [HPx.out, if_neg HFA.out, List.append_nil] at HFT
        go_roundw
        case rel => exact ⟨k + 1, R, rc, by omega, by go_num, by rw [HFT.out], by rw [HFT.out]; exact HO.out, hbs, HBw.out⟩
        case measure => simp [intOf]; omega
    · have ek : n = k := by omega
      have hsz := HO.out
      rw [show l.take k = l by rw [← ek, HN.out]; exact List.take_length] at hsz ⊢
      have HS := Lib.hid hsz
      clear hsz ek
      have HBe := Lib.hid (HB.out.trans (HBw.out.mono (by omega)))
      cases Rw3.row HTw.out
      go_upto_region 8 with (fail)
      have hT2 : Blk _ w.heap.size 34 (rtC room age R (l.filter p).length rc) := HTw.out.put 2 (.slice R (l.filter p).length rc)
      have HT2 := Lib.hid hT2
      have HR2 := Lib.hid (HRw.out.far (p := ⟨w.heap.size, 2, none⟩) (by simp) (.slice R (l.filter p).length rc))
      have HB2 := Lib.hid (HBe.out.setCell (p := ⟨w.heap.size, 2, none⟩) (Nat.le_refl _) (.slice R (l.filter p).length rc))
      have HS2 := Lib.hid (HS.out.kept ((Only.refl w.heap.size wr).put 2 (.slice R (l.filter p).length rc)) (.inr (fun e => by have := (HS.out.lt _ e).1; omega)))
      clear hT2
      generalize wr.setCell ⟨w.heap.size, 2, none⟩ (.slice R (l.filter p).length rc) = w2 at HT2 HR2 HB2 HS2 ⊢
      cases Rw3.row HT2.out
      cases Rw3.row HR2.out
      go_wp2
      (try simp only [Exit.inBlock, Exit.then]); refine bodyPost_ret (results_cell_row rfl _ _ (w.heap.size + 1) 34 _ (0, 0) _ rfl (Rw3.blk_set HR2.out _ _ _) Try.underlying34 rfl info_rt) rfl ?_
      have HS3 := HS2.out.kept ((((Only.refl (w.heap.size + 1) w2).put 0 (.int .i64 room)).put 1 (.int .i64 age)).put 2 (.slice R (l.filter p).length rc)) (.inr (fun e => by have := (HS2.out.lt _ e).1; omega))
      exact ⟨R, rc, rfl, Rd.of_own HS3, Rw3.below_set HB2.out (by omega) _ _ _⟩

end Go.Proofs.Ytljkodfdiebfiaa.Fd
