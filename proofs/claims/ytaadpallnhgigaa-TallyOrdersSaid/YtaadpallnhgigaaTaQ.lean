/-
  Plain: what is added, in whatever order; the walk of TallyOrders.
-/
import Derived.Test.YtaadpallnhgigaaTaE
import Derived.Test.YtaadpallnhgigaaTaO
namespace Go.Proofs.Ytaadpallnhgigaa.Ta
open Go.RowKit Go.Proofs.Ytaadpallnhgigaa.Bt Go.Proofs.Ytaadpallnhgigaa.Mm Go.Proofs.Ytaadpallnhgigaa.Fl Go.Proofs.Ytaadpallnhgigaa.Tg Go.Proofs.Ytaadpallnhgigaa.Lw Go.Proofs.Ytaadpallnhgigaa.Op

/-- what is added to a counter, all together -/
def tot (l : List (Int × Nat × Bool)) (i : Nat) : Nat := (l.map fun p => if (i : Int) = p.1 then p.2.1 else 0).sum
/-- the counters behind all additions -/
def capF (l : List (Int × Nat × Bool)) (i : Nat) : Nat := min (tot l i) 18446744073709551615
theorem capF_ok (l : List (Int × Nat × Bool)) : Ok (capF l) := fun i => by unfold capF; omega
theorem capF_nil : capF [] = fun _ => 0 := by funext i; simp [capF, tot]
theorem tot_append (l r : List (Int × Nat × Bool)) (i : Nat) : tot (l ++ r) i = tot l i + tot r i := by simp [tot]
theorem capF_snoc (l : List (Int × Nat × Bool)) (k : Int) (n : Nat) (r : Bool) : addF (capF l) k n = capF (l ++ [(k, n, r)]) := by
  funext i
  unfold addF capF
  rw [tot_append]
  have e : tot [(k, n, r)] i = if (i : Int) = k then n else 0 := by simp [tot]
  rw [e]
  unfold sat
  by_cases h : (i : Int) = k
  · simp only [if_pos h]
    split <;> omega
  · simp only [if_neg h]
    omega
theorem capF_take (l : List (Int × Nat × Bool)) (j : Nat) (h : j < l.length) : addF (capF (l.take j)) l[j].1 l[j].2.1 = capF (l.take (j + 1)) := by
  rw [List.take_succ_eq_append_getElem h]
  exact capF_snoc _ _ _ _
def rot (l : List (Int × Nat × Bool)) (k : Nat) : List (Int × Nat × Bool) := l.drop k ++ l.take k
theorem capF_rot (l : List (Int × Nat × Bool)) (k : Nat) : capF (rot l k) = capF l := by
  funext i
  unfold capF rot
  rw [tot_append, Nat.add_comm, ← tot_append, List.take_append_drop]
theorem length_rot (l : List (Int × Nat × Bool)) (k : Nat) : (rot l k).length = l.length := by
  unfold rot
  rw [List.length_append, List.length_drop, List.length_take]; omega
theorem get_rot (l : List (Int × Nat × Bool)) (k i : Nat) (hk : k < l.length) (hi : i < l.length) : (rot l k)[i]'(by rw [length_rot]; exact hi) = l[(i + k) % l.length]'(Nat.mod_lt _ (by omega)) := by
  unfold rot
  by_cases h : i < l.length - k
  · rw [List.getElem_append_left (by rw [List.length_drop]; exact h), List.getElem_drop]
    have e : (i + k) % l.length = k + i := by rw [Nat.mod_eq_of_lt (by omega)]; omega
    simp only [e]
  · rw [List.getElem_append_right (by rw [List.length_drop]; omega), List.getElem_take]
    have e : (i + k) % l.length = i - (l.length - k) := by
      rw [Nat.mod_eq_sub_mod (by omega), Nat.mod_eq_of_lt (by omega)]; omega
    simp only [e, List.length_drop]

set_option linter.unusedVariables false
set_option maxRecDepth 100000 in
set_option maxHeartbeats 2000000 in
theorem orders_walk (ps : List (Int × Nat × Bool)) (A : Option Addr) (c : Nat) (turn : Int) (w : World) (hm : ps.length ≤ maxLen) (hA : Rd w w.heap.size A (actCells ps)) (hB : ∀ q ∈ ps, q.2.1 < 18446744073709551616) (ht : (Lit.int .i64 turn).wf = true) :
    Calls Try.prog 4 #[.slice A ps.length c, .int .i64 turn] w (Law1 w) := by
  unfold maxLen at hm
  have HA := Lib.hid hA
  have HB := Lib.hid hB
  clear hA hB ht
  by_cases hl : (200 : Int) < (ps.length : Int)
  · go_enter Try.func4, Try.ntmps4
    go_wp2_with fail
    refine (new_any w).mono ?_
    rintro e w1 ⟨g, rfl, hgl, -, hbl⟩
    have HL := Lib.hid hbl
    clear hbl
    go_wp2_with fail
    refine (new_any w1).mono ?_
    rintro e w2 ⟨g2, rfl, hgl2, -, hbl⟩
    have HL2 := Lib.hid (HL.out.trans (hbl.mono HL.out.size))
    clear hbl
    go_wp2_with fail
    refine (awake7 w2).mono ?_
    rintro e w3 ⟨rfl, hbl⟩
    have HL3 := Lib.hid (HL2.out.trans (hbl.mono HL2.out.size))
    clear hbl
    go_wp2
    go_ret
    exact ⟨rfl, HL3.out⟩
  · have hl2 : decide ((200 : Int) < (ps.length : Int)) = false := decide_eq_false hl
    go_enter Try.func4, Try.ntmps4
    go_wp2_with fail
    refine (new_any w).mono ?_
    rintro e w1 ⟨g, rfl, hgl, hb, hbl⟩
    have hg1 := hb.lt
    have HG := Lib.hid hb
    have HL := Lib.hid hbl
    clear hbl hb
    go_wp2_with fail
    refine (new_any w1).mono ?_
    rintro e w2 ⟨g2, rfl, hgl2, hb2, hbl⟩
    have HG2 := Lib.hid (HG.out.below hbl hg1)
    have HH2 := Lib.hid hb2
    have HL2 := Lib.hid (HL.out.trans (hbl.mono HL.out.size))
    have hgg : g < g2 := by omega
    have hgw : w.heap.size ≤ g2 := by omega
    clear hbl hb2 hg1 HG HL hgl2
    go_upto_region 5 with (fail)
    go_cut [43] (fun s43 wx => ∃ b : Bool, s43 = .bool b ∧ (b = true → 0 < ps.length ∧ 0 ≤ turn) ∧ wx = w2)
    case first =>
      by_cases h1 : (0 : Int) < (ps.length : Int)
      · by_cases h2 : 0 ≤ turn
        · go_wp2_with fail
          go_meet
          exact ⟨true, rfl, fun _ => ⟨by omega, h2⟩, rfl⟩
        · go_wp2_with fail
          go_meet
          exact ⟨false, rfl, fun h => (by cases h), rfl⟩
      · go_wp2_with fail
        go_meet
        exact ⟨false, rfl, fun h => (by cases h), rfl⟩
    case rest =>
      obtain ⟨b, rfl, hbt, rfl⟩ := hcut
      go_upto_if 43 with (fail)
      go_cut [7] (fun s7 wx => ∃ kn : Nat, s7 = .int .i64 kn ∧ (kn < ps.length ∨ (ps.length = 0 ∧ kn = 0)) ∧ wx = wc)
      case first =>
        cases b
        · go_wp2_with fail
          go_meet
          exact ⟨0, rfl, by omega, rfl⟩
        · obtain ⟨hp, h0⟩ := hbt rfl
          obtain ⟨tn, rfl⟩ := Int.eq_ofNat_of_zero_le h0
          have hnz : ¬ ((ps.length : Int) = 0) := by omega
          have hmod : (tn : Int).tmod (ps.length : Int) = ((tn % ps.length : Nat) : Int) := by rw [Int.tmod_eq_emod_of_nonneg (by omega)]; exact (Int.natCast_emod _ _).symm
          obtain ⟨r, hr⟩ : ∃ r, r = tn % ps.length := ⟨_, rfl⟩
          rw [← hr] at hmod
          have hlr : r < ps.length := by rw [hr]; exact Nat.mod_lt _ hp
          clear hr
          go_wp2_with fail
          go_meet
          exact ⟨r, rfl, .inl hlr, rfl⟩
      case rest =>
        obtain ⟨kn, rfl, hkn, rfl⟩ := hcut
        have H0 := Lib.hid (show Blk wc g 47 (cells (capF (ps.take 0))) by rw [List.take_zero, capF_nil]; exact HG2.out)
        have G0 := Lib.hid (show Blk wc g2 47 (cells (capF ((rot ps kn).take 0))) by rw [List.take_zero, capF_nil]; exact HH2.out)
        clear HG2 HH2
        go_wp2_with fail
        go_loopw [50] (fun i wr => ∃ k : Nat, k ≤ ps.length ∧ i = .int .i64 k ∧ Blk wr g 47 (cells (capF (ps.take k))) ∧ Blk wr g2 47 (cells (capF ((rot ps kn).take 0))) ∧ Below w.heap.size w wr) (fun i _ => ps.length - (intOf i).toNat)
        case atStart => exact ⟨0, Nat.zero_le _, rfl, H0.out, G0.out, HL2.out⟩
        case round =>
          clear H0 G0 HL2
          obtain ⟨k, hk, rfl, ht, ht2, hbl⟩ := hrel
          by_cases hlt : k < ps.length
          · have hsn := Lib.hid (capF_take ps k hlt)
            obtain ⟨ad, rfl, hbk, hcell⟩ := (HA.out.below hbl) (by rw [length_actCells]; omega)
            have hcs := get_actCells ps k hlt
            have c0 := hcell _ _ hcs.1
            have c1 := hcell _ _ hcs.2.1
            have c2 := hcell _ _ hcs.2.2
            rw [add_succ] at c1
            rw [show k * 3 + 2 = (k * 3 + 1) + 1 by omega, add_succ, add_succ] at c2
            simp only at c2
            have hn := HB.out _ (List.getElem_mem hlt)
            obtain ⟨q, hq⟩ : ∃ q, q = ps[k] := ⟨_, rfl⟩
            rw [← hq] at c0 c1 c2 hn hsn
            obtain ⟨kk, n, r⟩ := q
            simp only at c0 c1 c2 hn hsn
            clear hcell hcs hq
            have hi : 0 ≤ (k : Int) ∧ (k : Int) < (ps.length : Int) := by omega
            have hglt := ht.lt
            have hglt2 := ht2.lt
            have HT := Lib.hid ht
            have HT2 := Lib.hid ht2
            have HL := Lib.hid hbl
            clear ht ht2 hbl
            go_wp2_with fail
            refine (add_any _ kk n g _ (capF_ok _) hn (HT.out.alloc _)).mono ?_
            rintro en w3 ⟨rfl, hb, ho⟩
            rw [hsn.out] at hb
            have HT3 := Lib.hid hb
            have HT4 := Lib.hid ((HT2.out.alloc _).grown ho (by intro e; injection e; omega))
            have HL3 := Lib.hid ((HL.out.alloc HL.out.size _).trans (ho.below hgl (HL.out.alloc HL.out.size _).size))
            clear hb ho
            go_wp2_with fail
            exact ⟨⟨k + 1, by omega, by go_num, HT3.out, HT4.out, HL3.out⟩, by simp [intOf]; omega⟩
          · rw [List.take_of_length_le (by omega)] at ht
            have HT := Lib.hid ht
            have HT2 := Lib.hid ht2
            have HL := Lib.hid hbl
            clear ht ht2 hbl
            go_wp2_with fail
            go_loopw [63] (fun i wr => ∃ k : Nat, k ≤ ps.length ∧ i = .int .i64 k ∧ Blk wr g 47 (cells (capF ps)) ∧ Blk wr g2 47 (cells (capF ((rot ps kn).take k))) ∧ Below w.heap.size w wr) (fun i _ => ps.length - (intOf i).toNat)
            case atStart => exact ⟨0, Nat.zero_le _, rfl, HT.out, HT2.out, HL.out⟩
            case round =>
              clear HT HT2 HL
              obtain ⟨k, hk, rfl, ht, ht2, hbl⟩ := hrel
              by_cases hlt : k < ps.length
              · have hkl : kn < ps.length := by omega
                have hlr : (k + kn) % ps.length < ps.length := Nat.mod_lt _ (by omega)
                have hgr := get_rot ps kn k hkl hlt
                have hs0 := capF_take (rot ps kn) k (by rw [length_rot]; exact hlt)
                rw [hgr] at hs0
                have hsn := Lib.hid hs0
                have hmod : ((k : Int) + (kn : Int)).tmod (ps.length : Int) = (((k + kn) % ps.length : Nat) : Int) := by rw [Int.tmod_eq_emod_of_nonneg (by omega)]; exact (Int.natCast_emod _ _).symm
                have hwr : IntKind.i64.wrap ((k : Int) + (kn : Int)) = (k : Int) + (kn : Int) := IntWalk.i64_in _ ⟨by omega, by omega⟩
                have hnz : ¬ ((ps.length : Int) = 0) := by omega
                clear hs0 hgr
                obtain ⟨ad, rfl, hbk, hcell⟩ := (HA.out.below hbl) (by rw [length_actCells]; omega)
                have hcs := get_actCells ps _ hlr
                have hn := HB.out _ (List.getElem_mem hlr)
                obtain ⟨q, hq⟩ : ∃ q, q = ps[(k + kn) % ps.length] := ⟨_, rfl⟩
                rw [← hq] at hcs hn hsn
                obtain ⟨r, hr⟩ : ∃ r, r = (k + kn) % ps.length := ⟨_, rfl⟩
                clear hq
                rw [← hr] at hmod hlr hcs
                clear hr
                have c0 := hcell _ _ hcs.1
                have c1 := hcell _ _ hcs.2.1
                have c2 := hcell _ _ hcs.2.2
                rw [add_succ] at c1
                rw [show r * 3 + 2 = (r * 3 + 1) + 1 by omega, add_succ, add_succ] at c2
                simp only at c2
                obtain ⟨kk, n, rb⟩ := q
                simp only at c0 c1 c2 hn hsn
                clear hcell hcs
                have hi : 0 ≤ (r : Int) ∧ (r : Int) < (ps.length : Int) := by omega
                have hglt := ht.lt
                have hglt2 := ht2.lt
                have HT := Lib.hid ht
                have HT2 := Lib.hid ht2
                have HL := Lib.hid hbl
                clear ht ht2 hbl
                go_wp2_with fail
                refine (add_any _ kk n g2 _ (capF_ok _) hn (HT2.out.alloc _)).mono ?_
                rintro en w3 ⟨rfl, hb, ho⟩
                rw [hsn.out] at hb
                have HT3 := Lib.hid hb
                have HT4 := Lib.hid ((HT.out.alloc _).grown ho (by intro e; injection e; omega))
                have HL3 := Lib.hid ((HL.out.alloc HL.out.size _).trans (ho.below hgw (HL.out.alloc HL.out.size _).size))
                clear hb ho
                go_wp2_with fail
                exact ⟨⟨k + 1, by omega, by go_num, HT4.out, HT3.out, HL3.out⟩, by simp [intOf]; omega⟩
              · rw [List.take_of_length_le (by rw [length_rot]; omega), capF_rot] at ht2
                have HT := Lib.hid ht
                have HT2 := Lib.hid ht2
                have HL := Lib.hid hbl
                have hgl2 := ht2.lt
                clear ht ht2 hbl
                go_wp2_with fail
                refine (all_any (capF ps) g _ HT.out).mono ?_
                rintro en w3 ⟨bx, rfl, hrow, hbc⟩
                have HX := Lib.hid hrow
                have HT3 := Lib.hid (HT2.out.below hbc hgl2)
                have HL3 := Lib.hid (HL.out.trans (hbc.mono HL.out.size))
                clear hrow hbc
                go_wp2_with fail
                refine (all_any (capF ps) g2 _ HT3.out).mono ?_
                rintro en w4 ⟨bz, rfl, hrow, hbc⟩
                have HY := Lib.hid hrow
                have HX4 := Lib.hid (HX.out.below hbc HX.out.lt)
                have HL4 := Lib.hid (HL3.out.trans (hbc.mono HL3.out.size))
                clear hrow hbc
                go_wp2_with fail
                obtain ⟨f, hf⟩ : ∃ f, f = capF ps := ⟨_, rfl⟩
                rw [← hf] at HX4 HY
                clear hf
                go_loopw [86] (fun i wr => ∃ k : Nat, k ≤ 16 ∧ i = .int .i64 k ∧ Below w4.heap.size w4 wr) (fun i _ => 16 - (intOf i).toNat)
                case atStart => exact ⟨0, Nat.zero_le _, rfl, Below.refl _ _⟩
                case round =>
                  obtain ⟨k, hk, rfl, hbl⟩ := hrel
                  by_cases hlt : k < 16
                  · have c0 := cell_of (HX4.out.below hbl HX4.out.lt) k hlt
                    have c1 := cell_of (HY.out.below hbl HY.out.lt) k hlt
                    have hi : 0 ≤ (k : Int) ∧ (k : Int) < 16 := by omega
                    have hne : ((f k : Int) != (f k : Int)) = false := by simp
                    have HL := Lib.hid hbl
                    clear hbl
                    go_upto_region 22 with (fail)
                    go_quiet (fail)
                    go_wp2_with fail
                    exact ⟨⟨k + 1, by omega, by go_num, below_drewN HL.out _⟩, by simp [intOf]; omega⟩
                  · have HL5 := Lib.hid (HL4.out.trans (hbl.mono HL4.out.size))
                    clear hbl
                    go_wp2_with fail
                    refine (awake7 _).mono ?_
                    rintro en w5 ⟨rfl, hbc⟩
                    have HL6 := Lib.hid (HL5.out.trans (hbc.mono HL5.out.size))
                    clear hbc
                    go_wp2
                    go_ret
                    exact ⟨rfl, HL6.out⟩
end Go.Proofs.Ytaadpallnhgigaa.Ta
