/-
  The statement FdbPlays: its walk.
-/
import Derived.Test.YtljkodfdiebfiaaFdbQ
import Derived.Test.YtljkodfdiebfiaaFdbO
import Derived.Deep.CutBlock
namespace Go.Proofs.Ytljkodfdiebfiaa.Fd
open Go.RowKit Go.Proofs.Ytljkodfdiebfiaa.Mm Go.Proofs.Ytljkodfdiebfiaa.Tg Go.Proofs.Ytljkodfdiebfiaa.Lw Go.Proofs.Ytljkodfdiebfiaa.Op
set_option linter.unusedSimpArgs false

abbrev acC (kd lt vl ad : Nat) (pt : Int) : Array Value := #[.int .u8 (kd : Int), .int .u16 (lt : Int), .int .u16 (vl : Int), .int .u64 (ad : Int), .int .i64 pt]
/-- an act out of a slice of acts -/
theorem rd_act {w : World} {B : Nat} {A : Option Addr} {l : List (Nat × Nat × Nat × Nat × Int)} (h : Rd w B A (factsCells l)) {i : Nat} (hi : i < l.length) :
    ∃ ad : Addr, A = some ad ∧ ad.block < B ∧ w.cell? (ad.add (i * 5)) = some (.int .u8 (l[i].1 : Int)) ∧ w.cell? ⟨(ad.add (i * 5)).block, (ad.add (i * 5)).off + 1, none⟩ = some (.int .u16 (l[i].2.1 : Int)) ∧
      w.cell? ⟨(ad.add (i * 5)).block, (ad.add (i * 5)).off + 2, none⟩ = some (.int .u16 (l[i].2.2.1 : Int)) ∧ w.cell? ⟨(ad.add (i * 5)).block, (ad.add (i * 5)).off + 3, none⟩ = some (.int .u64 (l[i].2.2.2.1 : Int)) ∧
      w.cell? ⟨(ad.add (i * 5)).block, (ad.add (i * 5)).off + 4, none⟩ = some (.int .i64 l[i].2.2.2.2) := by
  obtain ⟨ad, e1, e2, e3⟩ := h (by rw [length_factsCells]; omega)
  obtain ⟨g0, g1, g2, g3, g4⟩ := get_factsCells l i hi
  have a2 : ad.add (i * 5 + 2) = ⟨(ad.add (i * 5)).block, (ad.add (i * 5)).off + 2, none⟩ := by rw [← add_add]; rfl
  have a3 : ad.add (i * 5 + 3) = ⟨(ad.add (i * 5)).block, (ad.add (i * 5)).off + 3, none⟩ := by rw [← add_add]; rfl
  have a4 : ad.add (i * 5 + 4) = ⟨(ad.add (i * 5)).block, (ad.add (i * 5)).off + 4, none⟩ := by rw [← add_add]; rfl
  refine ⟨ad, e1, e2, e3 _ _ g0, ?_, ?_, ?_, ?_⟩
  · rw [← add_succ]; exact e3 _ _ g1
  · rw [← a2]; exact e3 _ _ g2
  · rw [← a3]; exact e3 _ _ g3
  · rw [← a4]; exact e3 _ _ g4

theorem st_mkb {P : Program} {ops : Array Oper} {Q : Exit → Act → World → Prop} {md : Region.Mode} {S : World → Prop} {fuel : Nat} {listed : Array Bool} {a : Act} {w : World} {K : Act → World → Prop} {cs : Array Value} {t : TypeId}
    (hK : Shut (∀ a w, S w → (S w → wpAnyH P md ops Q S fuel listed a w) → K a w)) (hS : S w) (KS : Rg.Keeps S)
    (h : ∀ w', Below w.heap.size w w' → S w' → Blk w' w.heap.size t cs → wpAnyH P md ops Q S fuel listed a w') : K a (w.alloc (.cells cs t)) := by
  have hb : Below w.heap.size w (w.alloc (.cells cs t)) := (Below.refl _ _).alloc (Nat.le_refl _) _
  exact hK.out _ _ (KS _ _ hS hb) (fun hS' => h _ hb hS' (Blk.fresh _ _ _))
theorem Blk.ne_t {w : World} {x y : Nat} {t s : TypeId} {a b : Array Value} (h : Blk w x t a) (h' : Blk w y s b) (hne : t ≠ s) : x ≠ y := by
  rintro rfl
  unfold Blk at h h'
  rw [h] at h'
  injection h' with e
  injection e with _ e2
  exact hne e2

set_option maxRecDepth 100000 in
set_option maxHeartbeats 8000000 in
theorem plays_walk (room age : Int) (ps : List (Nat × Nat × Nat × Nat × Int)) (A : Option Addr) (c : Nat) (w : World)
    (_hr : (Lit.int .i64 room).wf = true) (_ha : (Lit.int .i64 age).wf = true) (hm : ps.length ≤ maxLen) (hA : Rd w w.heap.size A (factsCells ps)) (hB : ∀ q ∈ ps, q.1 < 256 ∧ q.2.1 < 65536 ∧ q.2.2.1 < 65536 ∧ q.2.2.2.1 < 18446744073709551616 ∧ (-9223372036854775808 ≤ q.2.2.2.2 ∧ q.2.2.2.2 ≤ 9223372036854775807)) :
    Calls Try.prog 3 #[.int .i64 room, .int .i64 age, .slice A ps.length c] w (Law1 w) := by
  unfold maxLen at hm
  have HA := Lib.hid hA; have HB := Lib.hid hB
  clear hA hB _hr _ha
  by_cases h80 : 80 < ps.length
  · have hl2 : decide ((80 : Int) < (ps.length : Int)) = true := decide_eq_true (by omega)
    go_enter Try.func3, Try.ntmps3
    go_wp2_with fail
    refine (awake11 w).mono ?_
    rintro e w1 ⟨rfl, hb⟩
    have HW := Lib.hid hb; clear hb
    go_wp2
    go_ret
    exact ⟨rfl, HW.out⟩
  have hl2 : decide ((80 : Int) < (ps.length : Int)) = false := decide_eq_false (by omega)

  by_cases h1 : room < 1
  · have c1 : decide (room < 1) = true := decide_eq_true h1
    go_enter Try.func3, Try.ntmps3
    go_wp2_with fail
    refine (new_bad room age w (.inl h1)).mono ?_
    rintro e w1 ⟨rfl, hb⟩
    go_upto_region 4 with (fail)
    have HT := Lib.hid (Blk.fresh w1 26 noT)
    have HW := Lib.hid (hb.alloc hb.size (.cells noT 26))
    obtain ⟨g, hg⟩ : ∃ g, g = w1.heap.size := ⟨_, rfl⟩
    rw [← hg] at HT ⊢
    clear hb hg
    generalize w1.alloc (.cells noT 26) = w2 at HT HW ⊢
    go_wp2_with fail
    refine (awake11 w2).mono ?_
    rintro e w3 ⟨rfl, hb⟩
    have HT3 := Lib.hid (HT.out.below hb HT.out.lt)
    have HW3 := Lib.hid (HW.out.trans (hb.mono HW.out.size))
    clear hb
    cases Rw3.row HT3.out
    go_wp2_with fail
    refine (rows_nil w3).mono ?_
    rintro e w4 ⟨R, rc, rfl, hb⟩
    have HW4 := Lib.hid (HW3.out.trans (hb.mono HW3.out.size))
    clear hb
    go_wp2
    go_ret
    exact ⟨rfl, HW4.out⟩
  have c1 : decide (room < 1) = false := decide_eq_false h1
  by_cases h2 : 1024 < room
  · have c2 : decide (1024 < room) = true := decide_eq_true h2
    go_enter Try.func3, Try.ntmps3
    go_wp2_with fail
    refine (new_bad room age w (.inr (.inl h2))).mono ?_
    rintro e w1 ⟨rfl, hb⟩
    go_upto_region 4 with (fail)
    have HT := Lib.hid (Blk.fresh w1 26 noT)
    have HW := Lib.hid (hb.alloc hb.size (.cells noT 26))
    obtain ⟨g, hg⟩ : ∃ g, g = w1.heap.size := ⟨_, rfl⟩
    rw [← hg] at HT ⊢
    clear hb hg
    generalize w1.alloc (.cells noT 26) = w2 at HT HW ⊢
    go_wp2_with fail
    refine (awake11 w2).mono ?_
    rintro e w3 ⟨rfl, hb⟩
    have HT3 := Lib.hid (HT.out.below hb HT.out.lt)
    have HW3 := Lib.hid (HW.out.trans (hb.mono HW.out.size))
    clear hb
    cases Rw3.row HT3.out
    go_wp2_with fail
    refine (rows_nil w3).mono ?_
    rintro e w4 ⟨R, rc, rfl, hb⟩
    have HW4 := Lib.hid (HW3.out.trans (hb.mono HW3.out.size))
    clear hb
    go_wp2
    go_ret
    exact ⟨rfl, HW4.out⟩
  have c2 : decide (1024 < room) = false := decide_eq_false h2
  by_cases h3 : age < 1
  · have c3 : decide (age < 1) = true := decide_eq_true h3
    go_enter Try.func3, Try.ntmps3
    go_wp2_with fail
    refine (new_bad room age w (.inr (.inr (.inl h3)))).mono ?_
    rintro e w1 ⟨rfl, hb⟩
    go_upto_region 4 with (fail)
    have HT := Lib.hid (Blk.fresh w1 26 noT)
    have HW := Lib.hid (hb.alloc hb.size (.cells noT 26))
    obtain ⟨g, hg⟩ : ∃ g, g = w1.heap.size := ⟨_, rfl⟩
    rw [← hg] at HT ⊢
    clear hb hg
    generalize w1.alloc (.cells noT 26) = w2 at HT HW ⊢
    go_wp2_with fail
    refine (awake11 w2).mono ?_
    rintro e w3 ⟨rfl, hb⟩
    have HT3 := Lib.hid (HT.out.below hb HT.out.lt)
    have HW3 := Lib.hid (HW.out.trans (hb.mono HW.out.size))
    clear hb
    cases Rw3.row HT3.out
    go_wp2_with fail
    refine (rows_nil w3).mono ?_
    rintro e w4 ⟨R, rc, rfl, hb⟩
    have HW4 := Lib.hid (HW3.out.trans (hb.mono HW3.out.size))
    clear hb
    go_wp2
    go_ret
    exact ⟨rfl, HW4.out⟩
  have c3 : decide (age < 1) = false := decide_eq_false h3
  by_cases h4 : 1048576 < age
  · have c4 : decide (1048576 < age) = true := decide_eq_true h4
    go_enter Try.func3, Try.ntmps3
    go_wp2_with fail
    refine (new_bad room age w (.inr (.inr (.inr h4)))).mono ?_
    rintro e w1 ⟨rfl, hb⟩
    go_upto_region 4 with (fail)
    have HT := Lib.hid (Blk.fresh w1 26 noT)
    have HW := Lib.hid (hb.alloc hb.size (.cells noT 26))
    obtain ⟨g, hg⟩ : ∃ g, g = w1.heap.size := ⟨_, rfl⟩
    rw [← hg] at HT ⊢
    clear hb hg
    generalize w1.alloc (.cells noT 26) = w2 at HT HW ⊢
    go_wp2_with fail
    refine (awake11 w2).mono ?_
    rintro e w3 ⟨rfl, hb⟩
    have HT3 := Lib.hid (HT.out.below hb HT.out.lt)
    have HW3 := Lib.hid (HW.out.trans (hb.mono HW.out.size))
    clear hb
    cases Rw3.row HT3.out
    go_wp2_with fail
    refine (rows_nil w3).mono ?_
    rintro e w4 ⟨R, rc, rfl, hb⟩
    have HW4 := Lib.hid (HW3.out.trans (hb.mono HW3.out.size))
    clear hb
    go_wp2
    go_ret
    exact ⟨rfl, HW4.out⟩
  have c4 : decide (1048576 < age) = false := decide_eq_false h4

  have HQ : Hid (1 ≤ room ∧ room ≤ 1024 ∧ 1 ≤ age ∧ age ≤ 1048576) := Lib.hid (by omega)
  go_enter Try.func3, Try.ntmps3
  go_wp2_with fail
  refine (new_ok room age w (by omega) (by omega)).mono ?_
  rintro e w1 ⟨b, rfl, hmp, hb⟩
  go_upto_region 7 with (fail)
  obtain ⟨g, hg⟩ : ∃ g, g = w1.heap.size := ⟨_, rfl⟩
  have L0 : w.heap.size ≤ g := by rw [hg]; exact hb.size
  have HT := Lib.hid (blk_two w1 26 34 (tbC room age (some b)) (rtC room age none 0 0))
  have HR := Lib.hid (fresh_second w1 (.cells (tbC room age (some b)) 26) 34 (rtC room age none 0 0))
  have HW := Lib.hid (hb.trans ((below_two w1 (.cells (tbC room age (some b)) 26) (.cells (rtC room age none 0 0) 34)).mono hb.size))
  have HM := Lib.hid ((hmp.alloc (.cells (tbC room age (some b)) 26)).alloc (.cells (rtC room age none 0 0) 34))
  rw [← hg] at HT HR ⊢
  clear hmp hb hg h1 h2 h3 h4
  generalize (w1.alloc (.cells (tbC room age (some b)) 26)).alloc (.cells (rtC room age none 0 0) 34) = w2 at HT HR HW HM ⊢
  have HA2 := Lib.hid (HA.out.below HW.out)
  have LA := HW.out.size
  go_wp2_with fail
  go_loopw [10, 63] (fun s10 i wr => ∃ (k : Nat) (now : Int) (l : List Fr) (b n rc : Nat) (R : Option Addr), k ≤ ps.length ∧ i = .int .i64 k ∧ s10 = .int .i64 now ∧ 0 ≤ now ∧ now ≤ k * 65535 ∧ Inv room now l ∧ n = l.length ∧ Blk wr g 26 (tbC room age (some b)) ∧ Blk wr (g + 1) 34 (rtC room age R n rc) ∧ Mp wr b l ∧ Rd wr wr.heap.size R (rowCs l) ∧ Below w.heap.size w wr ∧ w.heap.size ≤ wr.heap.size) (fun _ i _ => ps.length - (intOf i).toNat)
  case atStart => exact ⟨0, 0, [], b, 0, 0, none, Nat.zero_le _, rfl, rfl, by omega, by omega, Inv.nil (by have := HQ.out; omega), rfl, HT.out, HR.out, HM.out, Rd.none _ _ _, HW.out, LA⟩
  case round =>
    obtain ⟨k, now, l, b, n, rc, R, hk, rfl, rfl, hn0, hn1, hinv, hnl, ht, hr, hmp, hrd, hbw, hws⟩ := hrel
    clear HT HR HW HM HA2 LA
    have HT := Lib.hid ht; have HR := Lib.hid hr; have HM := Lib.hid hmp; have HL := Lib.hid hrd; have HW := Lib.hid hbw; have HI := Lib.hid hinv; have HN := Lib.hid hnl
    clear ht hr hmp hrd hbw hinv hnl
    by_cases hlt : k < ps.length
    · obtain ⟨ad, hAd, hbl, c0, c1, c2, c3, c4⟩ := rd_act (HA.out.below HW.out) hlt
      subst hAd
      have hq := HB.out _ (List.getElem_mem hlt)
      obtain ⟨q, hqe⟩ : ∃ q, q = ps[k] := ⟨_, rfl⟩
      rw [← hqe] at c0 c1 c2 c3 c4 hq
      clear hqe
      obtain ⟨kd, lt, vl, adr, pt⟩ := q
      dsimp only at c0 c1 c2 c3 c4 hq
      obtain ⟨hq0, hq1, hq2, hq3, hq4⟩ := hq
      have hwl : IntKind.i64.wrap (lt : Int) = (lt : Int) := by rw [IntKind.wrap_i64]; omega
      obtain ⟨m, hm'⟩ : ∃ m, m = now + (lt : Int) := ⟨_, rfl⟩
      have hwr : IntKind.i64.wrap (now + (lt : Int)) = m := by rw [IntKind.wrap_i64]; omega
      have hm0 : 0 ≤ m := by omega
      have hm1 : m ≤ ((k + 1 : Nat) : Int) * 65535 := by omega
      have hm2 : m ≤ 1099511627776 := by omega
      have hnm : now ≤ m := by omega
      clear hm'
      have HI2 := Lib.hid (HI.out.later hnm)
      clear HI
      go_upto_region 12 with (fail)
      obtain ⟨z, hz⟩ : ∃ z, z = wr.heap.size := ⟨_, rfl⟩
      have LZ : w.heap.size ≤ z := by omega
      have LG : g + 1 < z := by rw [hz]; exact HR.out.lt
      have hQ := (Below.refl wr.heap.size wr).alloc (Nat.le_refl _) (.cells (acC kd lt vl adr pt) 38)
      have HT1 := Lib.hid (HT.out.below hQ HT.out.lt)
      have HR1 := Lib.hid (HR.out.below hQ HR.out.lt)
      have HM1 := Lib.hid (HM.out.on hQ)
      have HL1 := Lib.hid ((HL.out.below hQ).more hQ.size)
      have HC1 := Lib.hid (Blk.fresh wr 38 (acC kd lt vl adr pt))
      have HW1 := Lib.hid (HW.out.trans (hQ.mono HW.out.size))
      rw [← hz] at HC1 ⊢
      clear hQ hz HT HR HM HL HW c0 c1 c2 c3 c4 hbl
      generalize wr.alloc (.cells (acC kd lt vl adr pt) 38) = w3 at HT1 HR1 HM1 HL1 HC1 HW1 ⊢
      cases Rw3.row HT1.out
      cases Rw3.row HR1.out
      go_cut [13, 14] (fun s13 s14 wx => ∃ x y, s13 = .pointer (some ⟨x, 0, none⟩) ∧ s14 = .pointer (some ⟨y, 0, none⟩) ∧ Blk wx x 26 (tbC room age (some b)) ∧ Blk wx y 34 (rtC room age R n rc) ∧ w3.heap.size ≤ x ∧ w3.heap.size ≤ y ∧ Below w3.heap.size w3 wx)
      case first =>
        have L3 : g + 1 < w3.heap.size := HR1.out.lt
        refine wp_region_held_drew (S := fun wx => Blk wx g 26 (tbC room age (some b)) ∧ Blk wx (g + 1) 34 (rtC room age R n rc)) (by kernel_rfl) ⟨HT1.out.drew, HR1.out.drew⟩ (fun hHeld => ?_)
        have HBR := Lib.hid ((Below.refl w3.heap.size w3).drew)
        have KS := Lib.hid ((Rg.Keeps.one g 26 (tbC room age (some b))).and (Rg.Keeps.one (g + 1) 34 (rtC room age R n rc)))
        generalize w3.drew = wd at hHeld HBR ⊢

        refine Rg.tk 0 (v := ?_) ?_ ?_
        rotate_left
        · intro wx hSx
          cases Rw3.row hSx.1; cases Rw3.row hSx.2; go_simp
          all_goals with_reducible rfl
        simp only [Act.put, Rg.e1, Rg.e2, Rg.e3, Rg.e4, Rg.e5, Rg.e6]
        refine Rg.tk 1 (v := ?_) ?_ ?_
        rotate_left
        · intro wx hSx
          cases Rw3.row hSx.1; cases Rw3.row hSx.2; go_simp
          all_goals with_reducible rfl
        simp only [Act.put, Rg.e1, Rg.e2, Rg.e3, Rg.e4, Rg.e5, Rg.e6]
        refine wpAnyH_ready (rs := [2, 3]) (by kernel_rfl) (by simp) ?_
        refine .cons (o := _) rfl (fun K hK => ?_) ?_
        · go_simp
          refine st_mkb hK hHeld KS.out ?_
          clear hK K
          intro wr1 hbq hHeld hblk
          obtain ⟨x, hx⟩ : ∃ x, x = wd.heap.size := ⟨_, rfl⟩
          have LX : w3.heap.size ≤ x := by rw [hx]; exact HBR.out.size
          rw [← hx] at hblk ⊢
          have HX := Lib.hid hblk
          try have HY := Lib.hid (HY.out.below hbq HY.out.lt)
          have HBR := Lib.hid (HBR.out.trans (hbq.mono HBR.out.size))
          clear hbq hblk hx
          try simp only [Rg.e1, Rg.e2, Rg.e3]
          refine wpAnyH_ready (rs := [3]) (by kernel_rfl) (by simp) ?_
          refine .cons (o := _) rfl (fun K hK => ?_) ?_
          · go_simp
            refine st_mkb hK hHeld KS.out ?_
            clear hK K
            intro wr2 hbq hHeld hblk
            obtain ⟨y, hx⟩ : ∃ y, y = wr1.heap.size := ⟨_, rfl⟩
            have LY : w3.heap.size ≤ y := by rw [hx]; exact HBR.out.size
            rw [← hx] at hblk ⊢
            have HY := Lib.hid hblk
            try have HX := Lib.hid (HX.out.below hbq HX.out.lt)
            have HBR := Lib.hid (HBR.out.trans (hbq.mono HBR.out.size))
            clear hbq hblk hx
            try simp only [Rg.e1, Rg.e2, Rg.e3]
            refine wpAnyH_ready (rs := [4]) (by kernel_rfl) (by simp) ?_
            refine .cons (o := _) rfl (fun K hK => ?_) ?_
            · cases Rw3.row HX.out
              go_simp
              have NE : x ≠ y := Blk.ne_t HX.out HY.out (by decide)
              refine hK.out _ _ ⟨Rw3.far hHeld.1 (by omega) _ _ _, Rw3.far hHeld.2 (by omega) _ _ _⟩ (fun hHeld => ?_)
              clear hK K
              obtain ⟨wr3, hw9⟩ : ∃ wr3, wr3 = Rw3.set wr2 x (.int .i64 room) (.int .i64 age) (.map (some b)) := ⟨_, rfl⟩
              have HX : Hid (Blk wr3 x 26 (tbC room age (some b))) := Lib.hid (by rw [hw9]; exact Rw3.blk_set HX.out _ _ _)
              have HY := Lib.hid (show Blk wr3 _ _ _ by rw [hw9]; exact Rw3.far HY.out NE.symm _ _ _)
              have HBR : Hid (Below w3.heap.size w3 wr3) := Lib.hid (by rw [hw9]; exact Rw3.below_set HBR.out LX _ _ _)
              dsimp only [Rw3.set] at hw9
              rw [← hw9] at hHeld ⊢
              clear hw9 NE
              try simp only [Rg.e1, Rg.e2, Rg.e3]
              refine wpAnyH_ready (rs := [5]) (by kernel_rfl) (by simp) ?_
              refine .cons (o := _) rfl (fun K hK => ?_) ?_
              · cases Rw3.row HY.out
                go_simp
                have NE : y ≠ x := (Blk.ne_t HX.out HY.out (by decide)).symm
                refine hK.out _ _ ⟨Rw3.far hHeld.1 (by omega) _ _ _, Rw3.far hHeld.2 (by omega) _ _ _⟩ (fun hHeld => ?_)
                clear hK K
                obtain ⟨wr4, hw9⟩ : ∃ wr4, wr4 = Rw3.set wr3 y (.int .i64 room) (.int .i64 age) (.slice R n rc) := ⟨_, rfl⟩
                have HY : Hid (Blk wr4 y 34 (rtC room age R n rc)) := Lib.hid (by rw [hw9]; exact Rw3.blk_set HY.out _ _ _)
                have HX := Lib.hid (show Blk wr4 _ _ _ by rw [hw9]; exact Rw3.far HX.out NE.symm _ _ _)
                have HBR : Hid (Below w3.heap.size w3 wr4) := Lib.hid (by rw [hw9]; exact Rw3.below_set HBR.out LY _ _ _)
                dsimp only [Rw3.set] at hw9
                rw [← hw9] at hHeld ⊢
                clear hw9 NE
                try simp only [Rg.e1, Rg.e2, Rg.e3]
                refine wpAnyH_done (by kernel_rfl) ?_ _
                go_wp2_with fail
                go_meet
                exact ⟨x, y, rfl, rfl, HX.out, HY.out, LX, LY, HBR.out⟩
              exact AllReadyH.nil
            exact AllReadyH.nil
          exact AllReadyH.nil
        refine .cons (o := _) rfl (fun K hK => ?_) ?_
        · go_simp
          refine st_mkb hK hHeld KS.out ?_
          clear hK K
          intro wr5 hbq hHeld hblk
          obtain ⟨y, hx⟩ : ∃ y, y = wd.heap.size := ⟨_, rfl⟩
          have LY : w3.heap.size ≤ y := by rw [hx]; exact HBR.out.size
          rw [← hx] at hblk ⊢
          have HY := Lib.hid hblk
          try have HX := Lib.hid (HX.out.below hbq HX.out.lt)
          have HBR := Lib.hid (HBR.out.trans (hbq.mono HBR.out.size))
          clear hbq hblk hx
          try simp only [Rg.e1, Rg.e2, Rg.e3]
          refine wpAnyH_ready (rs := [2]) (by kernel_rfl) (by simp) ?_
          refine .cons (o := _) rfl (fun K hK => ?_) ?_
          · go_simp
            refine st_mkb hK hHeld KS.out ?_
            clear hK K
            intro wr6 hbq hHeld hblk
            obtain ⟨x, hx⟩ : ∃ x, x = wr5.heap.size := ⟨_, rfl⟩
            have LX : w3.heap.size ≤ x := by rw [hx]; exact HBR.out.size
            rw [← hx] at hblk ⊢
            have HX := Lib.hid hblk
            try have HY := Lib.hid (HY.out.below hbq HY.out.lt)
            have HBR := Lib.hid (HBR.out.trans (hbq.mono HBR.out.size))
            clear hbq hblk hx
            try simp only [Rg.e1, Rg.e2, Rg.e3]
            refine wpAnyH_ready (rs := [4]) (by kernel_rfl) (by simp) ?_
            refine .cons (o := _) rfl (fun K hK => ?_) ?_
            · cases Rw3.row HX.out
              go_simp
              have NE : x ≠ y := Blk.ne_t HX.out HY.out (by decide)
              refine hK.out _ _ ⟨Rw3.far hHeld.1 (by omega) _ _ _, Rw3.far hHeld.2 (by omega) _ _ _⟩ (fun hHeld => ?_)
              clear hK K
              obtain ⟨wr7, hw9⟩ : ∃ wr7, wr7 = Rw3.set wr6 x (.int .i64 room) (.int .i64 age) (.map (some b)) := ⟨_, rfl⟩
              have HX : Hid (Blk wr7 x 26 (tbC room age (some b))) := Lib.hid (by rw [hw9]; exact Rw3.blk_set HX.out _ _ _)
              have HY := Lib.hid (show Blk wr7 _ _ _ by rw [hw9]; exact Rw3.far HY.out NE.symm _ _ _)
              have HBR : Hid (Below w3.heap.size w3 wr7) := Lib.hid (by rw [hw9]; exact Rw3.below_set HBR.out LX _ _ _)
              dsimp only [Rw3.set] at hw9
              rw [← hw9] at hHeld ⊢
              clear hw9 NE
              try simp only [Rg.e1, Rg.e2, Rg.e3]
              refine wpAnyH_ready (rs := [5]) (by kernel_rfl) (by simp) ?_
              refine .cons (o := _) rfl (fun K hK => ?_) ?_
              · cases Rw3.row HY.out
                go_simp
                have NE : y ≠ x := (Blk.ne_t HX.out HY.out (by decide)).symm
                refine hK.out _ _ ⟨Rw3.far hHeld.1 (by omega) _ _ _, Rw3.far hHeld.2 (by omega) _ _ _⟩ (fun hHeld => ?_)
                clear hK K
                obtain ⟨wr8, hw9⟩ : ∃ wr8, wr8 = Rw3.set wr7 y (.int .i64 room) (.int .i64 age) (.slice R n rc) := ⟨_, rfl⟩
                have HY : Hid (Blk wr8 y 34 (rtC room age R n rc)) := Lib.hid (by rw [hw9]; exact Rw3.blk_set HY.out _ _ _)
                have HX := Lib.hid (show Blk wr8 _ _ _ by rw [hw9]; exact Rw3.far HX.out NE.symm _ _ _)
                have HBR : Hid (Below w3.heap.size w3 wr8) := Lib.hid (by rw [hw9]; exact Rw3.below_set HBR.out LY _ _ _)
                dsimp only [Rw3.set] at hw9
                rw [← hw9] at hHeld ⊢
                clear hw9 NE
                try simp only [Rg.e1, Rg.e2, Rg.e3]
                refine wpAnyH_done (by kernel_rfl) ?_ _
                go_wp2_with fail
                go_meet
                exact ⟨x, y, rfl, rfl, HX.out, HY.out, LX, LY, HBR.out⟩
              exact AllReadyH.nil
            exact AllReadyH.nil
          exact AllReadyH.nil
        exact AllReadyH.nil
      case rest =>
        obtain ⟨x, y, rfl, rfl, hx, hy, lx, ly, hb⟩ := hcut
        have L3 : g + 1 < w3.heap.size := HR1.out.lt
        have LX : g + 1 < x := by omega
        have LY : g + 1 < y := by omega
        have HS : Hid (St w wc g x y room age b n rc R l) := Lib.hid ⟨HT1.out.below hb (by omega), HR1.out.below hb L3, hx, hy, HM1.out.on hb, (HL1.out.below hb).more hb.size, HW1.out.trans (hb.mono HW1.out.size)⟩
        have HC := Lib.hid (HC1.out.below hb HC1.out.lt)
        clear hx hy lx ly hb HT1 HR1 HM1 HL1 HC1 HW1
        cases Rw5.row HC.out
        go_upto_block 2 with (fail)
        go_cut [] (fun wx => En w wx g x y room age m b n rc R l)
        case first =>
          by_cases k0 : kd = 0
          · have e0 : ((kd : Int) == 0) = true := by simp [k0]
            clear k0
            obtain ⟨cd, l', hi', hP, hF⟩ := learn_both (age := age) (p := pt) HI2.out HQ.out.2.1 hm0 ⟨hq2, hq3⟩
            have HP := Lib.hid hP; have HF := Lib.hid hF; have HI' := Lib.hid hi'
            clear hP hF hi'
            have hcd : ((cd : Int) != (cd : Int)) = false := by simp
            cases Rw3.row HS.out.tb
            go_wp2_with fail
            refine (HP.out _ b HS.out.mp).mono ?_
            rintro e w5 ⟨b', rfl, hm', hb⟩
            go_upto_region 16 with (fail)
            have HS6 := Lib.hid ((HS.out.below hb).alloc (.cells (tbC room age (some b')) 26))
            have HC6 := Lib.hid ((HC.out.below hb HC.out.lt).alloc (.cells (tbC room age (some b')) 26))
            have HM6 := Lib.hid (hm'.alloc (.cells (tbC room age (some b')) 26))
            have HU6 := Lib.hid (Blk.fresh w5 26 (tbC room age (some b')))
            obtain ⟨u, hu⟩ : ∃ u, u = w5.heap.size := ⟨_, rfl⟩
            have LU : g + 1 < u := by rw [hu]; have := HS.out.rt.lt; have := hb.size; omega
            rw [← hu] at HU6 ⊢
            clear hu hm' hb
            generalize w5.alloc (.cells (tbC room age (some b')) 26) = w6 at HS6 HC6 HM6 HU6 ⊢
            cases Rw3.row HS6.out.rt
            cases Rw5.row HC6.out
            go_wp2_with fail
            refine (HF.out _ R n rc HS6.out.rd HN.out).mono ?_
            rintro e w7 ⟨R', n', rc', rfl, hn', hrd', hb⟩
            have HN8 := Lib.hid hn'
            clear hn'
            go_upto_region 17 with (fail)
            have hQ := hb.trans (((Below.refl w7.heap.size w7).alloc (Nat.le_refl _) (.cells (rtC room age R' n' rc') 34)).mono hb.size)
            have HS8 := Lib.hid (HS6.out.below hQ)
            have HM8 := Lib.hid (HM6.out.on hQ)
            have HU8 := Lib.hid (HU6.out.below hQ HU6.out.lt)
            have HL8 := Lib.hid ((hrd'.below ((Below.refl w7.heap.size w7).alloc (Nat.le_refl _) (.cells (rtC room age R' n' rc') 34))).more (B' := (w7.alloc (.cells (rtC room age R' n' rc') 34)).heap.size) (by simp))
            have HV8 := Lib.hid (Blk.fresh w7 34 (rtC room age R' n' rc'))
            obtain ⟨v, hv⟩ : ∃ v, v = w7.heap.size := ⟨_, rfl⟩
            have LV : u < v := by rw [hv]; exact Nat.lt_of_lt_of_le HU6.out.lt hb.size
            rw [← hv] at HV8 ⊢
            clear hv hrd' hb hQ
            generalize w7.alloc (.cells (rtC room age R' n' rc') 34) = w8 at HS8 HM8 HU8 HL8 HV8 ⊢
            cases Rw3.row HU8.out
            cases Rw3.row HV8.out
            cases Rw3.row HS8.out.tb
            cases Rw3.row HS8.out.rt
            have z1 : ¬ u = g := by omega
            have z2 : ¬ g = u := by omega
            have z3 : ¬ u = g + 1 := by omega
            have z4 : ¬ g + 1 = u := by omega
            have z5 : ¬ v = g := by omega
            have z6 : ¬ g = v := by omega
            have z7 : ¬ v = g + 1 := by omega
            have z8 : ¬ g + 1 = v := by omega
            go_region
            go_wp2_with fail
            go_meet
            exact (HS8.out.store HI'.out HN8.out HM8.out HL8.out ⟨by omega, by omega⟩ (by omega) L0).drew
          have e0 : ((kd : Int) == 0) = false := by simp only [beq_eq_false_iff_ne]; omega
          by_cases k1 : kd = 1
          · have e1 : ((kd : Int) == 1) = true := by simp [k1]
            clear k0 k1
            obtain ⟨q, kb, hP, hF⟩ := look_both HI2.out HQ.out.2.1 ⟨hm0, hm2⟩ (show 0 ≤ age ∧ age ≤ 1048576 by have := HQ.out; omega) ⟨hq2, hq3⟩
            have HP := Lib.hid hP; have HF := Lib.hid hF
            clear hP hF
            have hqq : (q != q) = false := by simp
            have hbb : (kb != kb) = false := by simp
            cases Rw3.row HS.out.tb
            go_wp2_with fail
            refine (HP.out _ b HS.out.mp).mono ?_
            rintro e w5 ⟨rfl, hb⟩
            have HS5 := Lib.hid (HS.out.below hb)
            have HC5 := Lib.hid (HC.out.below hb HC.out.lt)
            clear hb
            cases Rw3.row HS5.out.rt
            cases Rw5.row HC5.out
            go_wp2_with fail
            refine (HF.out _ R n rc HS5.out.rd HN.out).mono ?_
            rintro e w6 ⟨rfl, hb⟩
            have HS6 := Lib.hid (HS5.out.below hb)
            clear hb
            go_wp2_with fail
            go_meet
            exact HS6.out.same HI2.out HN.out
          have e1 : ((kd : Int) == 1) = false := by simp only [beq_eq_false_iff_ne]; omega
          by_cases k2 : kd = 2
          · have e2 : ((kd : Int) == 2) = true := by simp [k2]
            clear k0 k1 k2
            obtain ⟨l', hi', hP, hF⟩ := sweep_both HI2.out HQ.out.2.1 ⟨hm0, hm2⟩ (show 0 ≤ age ∧ age ≤ 1048576 by have := HQ.out; omega)
            have HP := Lib.hid hP; have HF := Lib.hid hF; have HI' := Lib.hid hi'
            clear hP hF hi'
            go_upto_region 26 with (fail)
            refine wp_region_held_drew (S := fun wx => Blk wx z 38 (acC kd lt vl adr pt)) (by kernel_rfl) HC.out.drew (fun hHeld => ?_)
            have HBR := Lib.hid ((Below.refl wc.heap.size wc).drew)
            generalize wc.drew = wd at hHeld HBR ⊢
            refine Rg.tk 1 (v := ?_) ?_ ?_
            rotate_left
            · (intro wx hSx; go_simp; all_goals with_reducible rfl)
            simp only [Act.put, Rg.e1, Rg.e2, Rg.e3, Rg.e4, Rg.e5, Rg.e6]
            refine Rg.tk 4 (v := ?_) ?_ ?_
            rotate_left
            · (intro wx hSx; go_simp; all_goals with_reducible rfl)
            simp only [Act.put, Rg.e1, Rg.e2, Rg.e3, Rg.e4, Rg.e5, Rg.e6]
            refine wpAnyH_ready (rs := [0, 3]) (by kernel_rfl) (by simp) ?_
            refine .cons (o := _) rfl (fun K hK => ?_) ?_
            · cases Rw3.row (HS.out.below HBR.out).tb
              go_simp
              refine Rg.st_same hK hHeld (fun hHeld => ?_)
              clear hK K
              try simp only [Rg.e1, Rg.e2, Rg.e3]
              refine wpAnyH_ready (rs := [2, 3]) (by kernel_rfl) (by simp) ?_
              refine .cons (o := _) rfl (fun K hK => ?_) ?_
              · go_simp
                refine (HP.out _ b (HS.out.below HBR.out).mp).mono ?_
                rintro e wr2 ⟨b', rfl, hm', hbc⟩
                have HMx := Lib.hid hm'
                have HBC := Lib.hid hbc
                clear hm' hbc
                go_wp2_with fail
                refine Rg.st_same hK (hHeld.below HBC.out hHeld.lt) (fun hHeld => ?_)
                clear hK K
                have HBR := Lib.hid (HBR.out.trans (HBC.out.mono HBR.out.size))
                clear HBC
                try simp only [Rg.e1, Rg.e2, Rg.e3]
                refine wpAnyH_ready (rs := [3]) (by kernel_rfl) (by simp) ?_
                refine .cons (o := _) rfl (fun K hK => ?_) ?_
                · cases Rw3.row (HS.out.below HBR.out).rt
                  go_simp
                  refine Rg.st_same hK hHeld (fun hHeld => ?_)
                  clear hK K
                  try simp only [Rg.e1, Rg.e2, Rg.e3]
                  refine wpAnyH_ready (rs := [5]) (by kernel_rfl) (by simp) ?_
                  refine .cons (o := _) rfl (fun K hK => ?_) ?_
                  · go_simp
                    refine (HF.out _ R n rc (HS.out.below HBR.out).rd HN.out).mono ?_
                    rintro e wr4 ⟨R', n', rc', rfl, hn', hrd', hbc⟩
                    have HNx := Lib.hid hn'
                    have HLx := Lib.hid hrd'
                    have HBC := Lib.hid hbc
                    clear hn' hrd' hbc
                    go_wp2_with fail
                    refine Rg.st_same hK (hHeld.below HBC.out hHeld.lt) (fun hHeld => ?_)
                    clear hK K
                    have HMx := Lib.hid (HMx.out.on HBC.out)
                    have HBR := Lib.hid (HBR.out.trans (HBC.out.mono HBR.out.size))
                    clear HBC
                    try simp only [Rg.e1, Rg.e2, Rg.e3]
                    refine wpAnyH_ready (rs := [6]) (by kernel_rfl) (by simp) ?_
                    refine .cons (o := _) rfl (fun K hK => ?_) ?_
                    · cases Rw3.row (HS.out.below HBR.out).tb
                      go_simp
                      refine Rg.st_same hK (Rw3.far hHeld (by omega) _ _ _) (fun hHeld => ?_)
                      clear hK K
                      obtain ⟨wr5, hw9⟩ : ∃ wr5, wr5 = Rw3.set wr4 g (.int .i64 room) (.int .i64 age) (.map (some b')) := ⟨_, rfl⟩
                      have HSe := Lib.hid (HS.out.below HBR.out)
                      have HRt : Hid (Blk wr5 (g + 1) 34 (rtC room age R n rc)) := Lib.hid (by rw [hw9]; exact Rw3.far HSe.out.rt (by omega) _ _ _)
                      have HW9 := Lib.hid hw9
                      dsimp only [Rw3.set] at hw9
                      rw [← hw9] at hHeld ⊢
                      clear hw9
                      try simp only [Rg.e1, Rg.e2, Rg.e3]
                      refine wpAnyH_ready (rs := [7]) (by kernel_rfl) (by simp) ?_
                      refine .cons (o := _) rfl (fun K hK => ?_) ?_
                      · cases Rw3.row HRt.out
                        go_simp
                        refine Rg.st_same hK (Rw3.far hHeld (by omega) _ _ _) (fun hHeld => ?_)
                        clear hK K
                        obtain ⟨wr6, hw8⟩ : ∃ wr6, wr6 = Rw3.set wr5 (g + 1) (.int .i64 room) (.int .i64 age) (.slice R' n' rc') := ⟨_, rfl⟩
                        have HW8 := Lib.hid hw8
                        dsimp only [Rw3.set] at hw8
                        rw [← hw8] at hHeld ⊢
                        clear hw8
                        try simp only [Rg.e1, Rg.e2, Rg.e3]
                        refine wpAnyH_done (by kernel_rfl) ?_ _
                        go_wp2_with fail
                        go_meet
                        rw [HW8.out, HW9.out]
                        exact HSe.out.store HI'.out HNx.out HMx.out HLx.out ⟨by omega, by omega⟩ (by omega) L0
                      exact AllReadyH.nil
                    exact AllReadyH.nil
                  exact AllReadyH.nil
                exact AllReadyH.nil
              refine .cons (o := _) rfl (fun K hK => ?_) ?_
              · cases Rw3.row (HS.out.below HBR.out).rt
                go_simp
                refine Rg.st_same hK hHeld (fun hHeld => ?_)
                clear hK K
                try simp only [Rg.e1, Rg.e2, Rg.e3]
                refine wpAnyH_ready (rs := [2]) (by kernel_rfl) (by simp) ?_
                refine .cons (o := _) rfl (fun K hK => ?_) ?_
                · go_simp
                  refine (HP.out _ b (HS.out.below HBR.out).mp).mono ?_
                  rintro e wr8 ⟨b', rfl, hm', hbc⟩
                  have HMx := Lib.hid hm'
                  have HBC := Lib.hid hbc
                  clear hm' hbc
                  go_wp2_with fail
                  refine Rg.st_same hK (hHeld.below HBC.out hHeld.lt) (fun hHeld => ?_)
                  clear hK K
                  have HBR := Lib.hid (HBR.out.trans (HBC.out.mono HBR.out.size))
                  clear HBC
                  try simp only [Rg.e1, Rg.e2, Rg.e3]
                  refine wpAnyH_ready (rs := [5]) (by kernel_rfl) (by simp) ?_
                  refine .cons (o := _) rfl (fun K hK => ?_) ?_
                  · go_simp
                    refine (HF.out _ R n rc (HS.out.below HBR.out).rd HN.out).mono ?_
                    rintro e wr9 ⟨R', n', rc', rfl, hn', hrd', hbc⟩
                    have HNx := Lib.hid hn'
                    have HLx := Lib.hid hrd'
                    have HBC := Lib.hid hbc
                    clear hn' hrd' hbc
                    go_wp2_with fail
                    refine Rg.st_same hK (hHeld.below HBC.out hHeld.lt) (fun hHeld => ?_)
                    clear hK K
                    have HMx := Lib.hid (HMx.out.on HBC.out)
                    have HBR := Lib.hid (HBR.out.trans (HBC.out.mono HBR.out.size))
                    clear HBC
                    try simp only [Rg.e1, Rg.e2, Rg.e3]
                    refine wpAnyH_ready (rs := [6]) (by kernel_rfl) (by simp) ?_
                    refine .cons (o := _) rfl (fun K hK => ?_) ?_
                    · cases Rw3.row (HS.out.below HBR.out).tb
                      go_simp
                      refine Rg.st_same hK (Rw3.far hHeld (by omega) _ _ _) (fun hHeld => ?_)
                      clear hK K
                      obtain ⟨wr10, hw9⟩ : ∃ wr10, wr10 = Rw3.set wr9 g (.int .i64 room) (.int .i64 age) (.map (some b')) := ⟨_, rfl⟩
                      have HSe := Lib.hid (HS.out.below HBR.out)
                      have HRt : Hid (Blk wr10 (g + 1) 34 (rtC room age R n rc)) := Lib.hid (by rw [hw9]; exact Rw3.far HSe.out.rt (by omega) _ _ _)
                      have HW9 := Lib.hid hw9
                      dsimp only [Rw3.set] at hw9
                      rw [← hw9] at hHeld ⊢
                      clear hw9
                      try simp only [Rg.e1, Rg.e2, Rg.e3]
                      refine wpAnyH_ready (rs := [7]) (by kernel_rfl) (by simp) ?_
                      refine .cons (o := _) rfl (fun K hK => ?_) ?_
                      · cases Rw3.row HRt.out
                        go_simp
                        refine Rg.st_same hK (Rw3.far hHeld (by omega) _ _ _) (fun hHeld => ?_)
                        clear hK K
                        obtain ⟨wr11, hw8⟩ : ∃ wr11, wr11 = Rw3.set wr10 (g + 1) (.int .i64 room) (.int .i64 age) (.slice R' n' rc') := ⟨_, rfl⟩
                        have HW8 := Lib.hid hw8
                        dsimp only [Rw3.set] at hw8
                        rw [← hw8] at hHeld ⊢
                        clear hw8
                        try simp only [Rg.e1, Rg.e2, Rg.e3]
                        refine wpAnyH_done (by kernel_rfl) ?_ _
                        go_wp2_with fail
                        go_meet
                        rw [HW8.out, HW9.out]
                        exact HSe.out.store HI'.out HNx.out HMx.out HLx.out ⟨by omega, by omega⟩ (by omega) L0
                      exact AllReadyH.nil
                    exact AllReadyH.nil
                  exact AllReadyH.nil
                exact AllReadyH.nil
              exact AllReadyH.nil
            refine .cons (o := _) rfl (fun K hK => ?_) ?_
            · cases Rw3.row (HS.out.below HBR.out).rt
              go_simp
              refine Rg.st_same hK hHeld (fun hHeld => ?_)
              clear hK K
              try simp only [Rg.e1, Rg.e2, Rg.e3]
              refine wpAnyH_ready (rs := [0]) (by kernel_rfl) (by simp) ?_
              refine .cons (o := _) rfl (fun K hK => ?_) ?_
              · cases Rw3.row (HS.out.below HBR.out).tb
                go_simp
                refine Rg.st_same hK hHeld (fun hHeld => ?_)
                clear hK K
                try simp only [Rg.e1, Rg.e2, Rg.e3]
                refine wpAnyH_ready (rs := [2]) (by kernel_rfl) (by simp) ?_
                refine .cons (o := _) rfl (fun K hK => ?_) ?_
                · go_simp
                  refine (HP.out _ b (HS.out.below HBR.out).mp).mono ?_
                  rintro e wr14 ⟨b', rfl, hm', hbc⟩
                  have HMx := Lib.hid hm'
                  have HBC := Lib.hid hbc
                  clear hm' hbc
                  go_wp2_with fail
                  refine Rg.st_same hK (hHeld.below HBC.out hHeld.lt) (fun hHeld => ?_)
                  clear hK K
                  have HBR := Lib.hid (HBR.out.trans (HBC.out.mono HBR.out.size))
                  clear HBC
                  try simp only [Rg.e1, Rg.e2, Rg.e3]
                  refine wpAnyH_ready (rs := [5]) (by kernel_rfl) (by simp) ?_
                  refine .cons (o := _) rfl (fun K hK => ?_) ?_
                  · go_simp
                    refine (HF.out _ R n rc (HS.out.below HBR.out).rd HN.out).mono ?_
                    rintro e wr15 ⟨R', n', rc', rfl, hn', hrd', hbc⟩
                    have HNx := Lib.hid hn'
                    have HLx := Lib.hid hrd'
                    have HBC := Lib.hid hbc
                    clear hn' hrd' hbc
                    go_wp2_with fail
                    refine Rg.st_same hK (hHeld.below HBC.out hHeld.lt) (fun hHeld => ?_)
                    clear hK K
                    have HMx := Lib.hid (HMx.out.on HBC.out)
                    have HBR := Lib.hid (HBR.out.trans (HBC.out.mono HBR.out.size))
                    clear HBC
                    try simp only [Rg.e1, Rg.e2, Rg.e3]
                    refine wpAnyH_ready (rs := [6]) (by kernel_rfl) (by simp) ?_
                    refine .cons (o := _) rfl (fun K hK => ?_) ?_
                    · cases Rw3.row (HS.out.below HBR.out).tb
                      go_simp
                      refine Rg.st_same hK (Rw3.far hHeld (by omega) _ _ _) (fun hHeld => ?_)
                      clear hK K
                      obtain ⟨wr16, hw9⟩ : ∃ wr16, wr16 = Rw3.set wr15 g (.int .i64 room) (.int .i64 age) (.map (some b')) := ⟨_, rfl⟩
                      have HSe := Lib.hid (HS.out.below HBR.out)
                      have HRt : Hid (Blk wr16 (g + 1) 34 (rtC room age R n rc)) := Lib.hid (by rw [hw9]; exact Rw3.far HSe.out.rt (by omega) _ _ _)
                      have HW9 := Lib.hid hw9
                      dsimp only [Rw3.set] at hw9
                      rw [← hw9] at hHeld ⊢
                      clear hw9
                      try simp only [Rg.e1, Rg.e2, Rg.e3]
                      refine wpAnyH_ready (rs := [7]) (by kernel_rfl) (by simp) ?_
                      refine .cons (o := _) rfl (fun K hK => ?_) ?_
                      · cases Rw3.row HRt.out
                        go_simp
                        refine Rg.st_same hK (Rw3.far hHeld (by omega) _ _ _) (fun hHeld => ?_)
                        clear hK K
                        obtain ⟨wr17, hw8⟩ : ∃ wr17, wr17 = Rw3.set wr16 (g + 1) (.int .i64 room) (.int .i64 age) (.slice R' n' rc') := ⟨_, rfl⟩
                        have HW8 := Lib.hid hw8
                        dsimp only [Rw3.set] at hw8
                        rw [← hw8] at hHeld ⊢
                        clear hw8
                        try simp only [Rg.e1, Rg.e2, Rg.e3]
                        refine wpAnyH_done (by kernel_rfl) ?_ _
                        go_wp2_with fail
                        go_meet
                        rw [HW8.out, HW9.out]
                        exact HSe.out.store HI'.out HNx.out HMx.out HLx.out ⟨by omega, by omega⟩ (by omega) L0
                      exact AllReadyH.nil
                    exact AllReadyH.nil
                  exact AllReadyH.nil
                exact AllReadyH.nil
              exact AllReadyH.nil
            exact AllReadyH.nil
          have e2 : ((kd : Int) == 2) = false := by simp only [beq_eq_false_iff_ne]; omega
          by_cases k3 : kd = 3
          · have e3 : ((kd : Int) == 3) = true := by simp [k3]
            clear k0 k1 k2 k3
            obtain ⟨l', hi', hP, hF⟩ := flush_both (age := age) pt HI2.out HQ.out.2.1
            have HP := Lib.hid hP; have HF := Lib.hid hF; have HI' := Lib.hid hi'
            clear hP hF hi'
            go_upto_region 28 with (fail)
            refine wp_region_held_drew (S := fun wx => Blk wx z 38 (acC kd lt vl adr pt)) (by kernel_rfl) HC.out.drew (fun hHeld => ?_)
            have HBR := Lib.hid ((Below.refl wc.heap.size wc).drew)
            generalize wc.drew = wd at hHeld HBR ⊢
            refine Rg.tk 1 (v := ?_) ?_ ?_
            rotate_left
            · (intro wx hSx; go_simp; all_goals with_reducible rfl)
            simp only [Act.put, Rg.e1, Rg.e2, Rg.e3, Rg.e4, Rg.e5, Rg.e6]
            refine Rg.tk 2 (v := ?_) ?_ ?_
            rotate_left
            · intro wx hSx
              cases Rw5.row hSx; go_simp
              all_goals with_reducible rfl
            simp only [Act.put, Rg.e1, Rg.e2, Rg.e3, Rg.e4, Rg.e5, Rg.e6]
            refine Rg.tk 5 (v := ?_) ?_ ?_
            rotate_left
            · (intro wx hSx; go_simp; all_goals with_reducible rfl)
            simp only [Act.put, Rg.e1, Rg.e2, Rg.e3, Rg.e4, Rg.e5, Rg.e6]
            refine Rg.tk 6 (v := ?_) ?_ ?_
            rotate_left
            · intro wx hSx
              cases Rw5.row hSx; go_simp
              all_goals with_reducible rfl
            simp only [Act.put, Rg.e1, Rg.e2, Rg.e3, Rg.e4, Rg.e5, Rg.e6]
            refine wpAnyH_ready (rs := [0, 4]) (by kernel_rfl) (by simp) ?_
            refine .cons (o := _) rfl (fun K hK => ?_) ?_
            · cases Rw3.row (HS.out.below HBR.out).tb
              go_simp
              refine Rg.st_same hK hHeld (fun hHeld => ?_)
              clear hK K
              try simp only [Rg.e1, Rg.e2, Rg.e3]
              refine wpAnyH_ready (rs := [3, 4]) (by kernel_rfl) (by simp) ?_
              refine .cons (o := _) rfl (fun K hK => ?_) ?_
              · go_simp
                refine (HP.out _ b (HS.out.below HBR.out).mp).mono ?_
                rintro e wr2 ⟨b', rfl, hm', hbc⟩
                have HMx := Lib.hid hm'
                have HBC := Lib.hid hbc
                clear hm' hbc
                go_wp2_with fail
                refine Rg.st_same hK (hHeld.below HBC.out hHeld.lt) (fun hHeld => ?_)
                clear hK K
                have HBR := Lib.hid (HBR.out.trans (HBC.out.mono HBR.out.size))
                clear HBC
                try simp only [Rg.e1, Rg.e2, Rg.e3]
                refine wpAnyH_ready (rs := [4]) (by kernel_rfl) (by simp) ?_
                refine .cons (o := _) rfl (fun K hK => ?_) ?_
                · cases Rw3.row (HS.out.below HBR.out).rt
                  go_simp
                  refine Rg.st_same hK hHeld (fun hHeld => ?_)
                  clear hK K
                  try simp only [Rg.e1, Rg.e2, Rg.e3]
                  refine wpAnyH_ready (rs := [7]) (by kernel_rfl) (by simp) ?_
                  refine .cons (o := _) rfl (fun K hK => ?_) ?_
                  · go_simp
                    refine (HF.out _ R n rc (HS.out.below HBR.out).rd HN.out).mono ?_
                    rintro e wr4 ⟨R', n', rc', rfl, hn', hrd', hbc⟩
                    have HNx := Lib.hid hn'
                    have HLx := Lib.hid hrd'
                    have HBC := Lib.hid hbc
                    clear hn' hrd' hbc
                    go_wp2_with fail
                    refine Rg.st_same hK (hHeld.below HBC.out hHeld.lt) (fun hHeld => ?_)
                    clear hK K
                    have HMx := Lib.hid (HMx.out.on HBC.out)
                    have HBR := Lib.hid (HBR.out.trans (HBC.out.mono HBR.out.size))
                    clear HBC
                    try simp only [Rg.e1, Rg.e2, Rg.e3]
                    refine wpAnyH_ready (rs := [8]) (by kernel_rfl) (by simp) ?_
                    refine .cons (o := _) rfl (fun K hK => ?_) ?_
                    · cases Rw3.row (HS.out.below HBR.out).tb
                      go_simp
                      refine Rg.st_same hK (Rw3.far hHeld (by omega) _ _ _) (fun hHeld => ?_)
                      clear hK K
                      obtain ⟨wr5, hw9⟩ : ∃ wr5, wr5 = Rw3.set wr4 g (.int .i64 room) (.int .i64 age) (.map (some b')) := ⟨_, rfl⟩
                      have HSe := Lib.hid (HS.out.below HBR.out)
                      have HRt : Hid (Blk wr5 (g + 1) 34 (rtC room age R n rc)) := Lib.hid (by rw [hw9]; exact Rw3.far HSe.out.rt (by omega) _ _ _)
                      have HW9 := Lib.hid hw9
                      dsimp only [Rw3.set] at hw9
                      rw [← hw9] at hHeld ⊢
                      clear hw9
                      try simp only [Rg.e1, Rg.e2, Rg.e3]
                      refine wpAnyH_ready (rs := [9]) (by kernel_rfl) (by simp) ?_
                      refine .cons (o := _) rfl (fun K hK => ?_) ?_
                      · cases Rw3.row HRt.out
                        go_simp
                        refine Rg.st_same hK (Rw3.far hHeld (by omega) _ _ _) (fun hHeld => ?_)
                        clear hK K
                        obtain ⟨wr6, hw8⟩ : ∃ wr6, wr6 = Rw3.set wr5 (g + 1) (.int .i64 room) (.int .i64 age) (.slice R' n' rc') := ⟨_, rfl⟩
                        have HW8 := Lib.hid hw8
                        dsimp only [Rw3.set] at hw8
                        rw [← hw8] at hHeld ⊢
                        clear hw8
                        try simp only [Rg.e1, Rg.e2, Rg.e3]
                        refine wpAnyH_done (by kernel_rfl) ?_ _
                        go_wp2_with fail
                        go_meet
                        rw [HW8.out, HW9.out]
                        exact HSe.out.store HI'.out HNx.out HMx.out HLx.out ⟨by omega, by omega⟩ (by omega) L0
                      exact AllReadyH.nil
                    exact AllReadyH.nil
                  exact AllReadyH.nil
                exact AllReadyH.nil
              refine .cons (o := _) rfl (fun K hK => ?_) ?_
              · cases Rw3.row (HS.out.below HBR.out).rt
                go_simp
                refine Rg.st_same hK hHeld (fun hHeld => ?_)
                clear hK K
                try simp only [Rg.e1, Rg.e2, Rg.e3]
                refine wpAnyH_ready (rs := [3]) (by kernel_rfl) (by simp) ?_
                refine .cons (o := _) rfl (fun K hK => ?_) ?_
                · go_simp
                  refine (HP.out _ b (HS.out.below HBR.out).mp).mono ?_
                  rintro e wr8 ⟨b', rfl, hm', hbc⟩
                  have HMx := Lib.hid hm'
                  have HBC := Lib.hid hbc
                  clear hm' hbc
                  go_wp2_with fail
                  refine Rg.st_same hK (hHeld.below HBC.out hHeld.lt) (fun hHeld => ?_)
                  clear hK K
                  have HBR := Lib.hid (HBR.out.trans (HBC.out.mono HBR.out.size))
                  clear HBC
                  try simp only [Rg.e1, Rg.e2, Rg.e3]
                  refine wpAnyH_ready (rs := [7]) (by kernel_rfl) (by simp) ?_
                  refine .cons (o := _) rfl (fun K hK => ?_) ?_
                  · go_simp
                    refine (HF.out _ R n rc (HS.out.below HBR.out).rd HN.out).mono ?_
                    rintro e wr9 ⟨R', n', rc', rfl, hn', hrd', hbc⟩
                    have HNx := Lib.hid hn'
                    have HLx := Lib.hid hrd'
                    have HBC := Lib.hid hbc
                    clear hn' hrd' hbc
                    go_wp2_with fail
                    refine Rg.st_same hK (hHeld.below HBC.out hHeld.lt) (fun hHeld => ?_)
                    clear hK K
                    have HMx := Lib.hid (HMx.out.on HBC.out)
                    have HBR := Lib.hid (HBR.out.trans (HBC.out.mono HBR.out.size))
                    clear HBC
                    try simp only [Rg.e1, Rg.e2, Rg.e3]
                    refine wpAnyH_ready (rs := [8]) (by kernel_rfl) (by simp) ?_
                    refine .cons (o := _) rfl (fun K hK => ?_) ?_
                    · cases Rw3.row (HS.out.below HBR.out).tb
                      go_simp
                      refine Rg.st_same hK (Rw3.far hHeld (by omega) _ _ _) (fun hHeld => ?_)
                      clear hK K
                      obtain ⟨wr10, hw9⟩ : ∃ wr10, wr10 = Rw3.set wr9 g (.int .i64 room) (.int .i64 age) (.map (some b')) := ⟨_, rfl⟩
                      have HSe := Lib.hid (HS.out.below HBR.out)
                      have HRt : Hid (Blk wr10 (g + 1) 34 (rtC room age R n rc)) := Lib.hid (by rw [hw9]; exact Rw3.far HSe.out.rt (by omega) _ _ _)
                      have HW9 := Lib.hid hw9
                      dsimp only [Rw3.set] at hw9
                      rw [← hw9] at hHeld ⊢
                      clear hw9
                      try simp only [Rg.e1, Rg.e2, Rg.e3]
                      refine wpAnyH_ready (rs := [9]) (by kernel_rfl) (by simp) ?_
                      refine .cons (o := _) rfl (fun K hK => ?_) ?_
                      · cases Rw3.row HRt.out
                        go_simp
                        refine Rg.st_same hK (Rw3.far hHeld (by omega) _ _ _) (fun hHeld => ?_)
                        clear hK K
                        obtain ⟨wr11, hw8⟩ : ∃ wr11, wr11 = Rw3.set wr10 (g + 1) (.int .i64 room) (.int .i64 age) (.slice R' n' rc') := ⟨_, rfl⟩
                        have HW8 := Lib.hid hw8
                        dsimp only [Rw3.set] at hw8
                        rw [← hw8] at hHeld ⊢
                        clear hw8
                        try simp only [Rg.e1, Rg.e2, Rg.e3]
                        refine wpAnyH_done (by kernel_rfl) ?_ _
                        go_wp2_with fail
                        go_meet
                        rw [HW8.out, HW9.out]
                        exact HSe.out.store HI'.out HNx.out HMx.out HLx.out ⟨by omega, by omega⟩ (by omega) L0
                      exact AllReadyH.nil
                    exact AllReadyH.nil
                  exact AllReadyH.nil
                exact AllReadyH.nil
              exact AllReadyH.nil
            refine .cons (o := _) rfl (fun K hK => ?_) ?_
            · cases Rw3.row (HS.out.below HBR.out).rt
              go_simp
              refine Rg.st_same hK hHeld (fun hHeld => ?_)
              clear hK K
              try simp only [Rg.e1, Rg.e2, Rg.e3]
              refine wpAnyH_ready (rs := [0]) (by kernel_rfl) (by simp) ?_
              refine .cons (o := _) rfl (fun K hK => ?_) ?_
              · cases Rw3.row (HS.out.below HBR.out).tb
                go_simp
                refine Rg.st_same hK hHeld (fun hHeld => ?_)
                clear hK K
                try simp only [Rg.e1, Rg.e2, Rg.e3]
                refine wpAnyH_ready (rs := [3]) (by kernel_rfl) (by simp) ?_
                refine .cons (o := _) rfl (fun K hK => ?_) ?_
                · go_simp
                  refine (HP.out _ b (HS.out.below HBR.out).mp).mono ?_
                  rintro e wr14 ⟨b', rfl, hm', hbc⟩
                  have HMx := Lib.hid hm'
                  have HBC := Lib.hid hbc
                  clear hm' hbc
                  go_wp2_with fail
                  refine Rg.st_same hK (hHeld.below HBC.out hHeld.lt) (fun hHeld => ?_)
                  clear hK K
                  have HBR := Lib.hid (HBR.out.trans (HBC.out.mono HBR.out.size))
                  clear HBC
                  try simp only [Rg.e1, Rg.e2, Rg.e3]
                  refine wpAnyH_ready (rs := [7]) (by kernel_rfl) (by simp) ?_
                  refine .cons (o := _) rfl (fun K hK => ?_) ?_
                  · go_simp
                    refine (HF.out _ R n rc (HS.out.below HBR.out).rd HN.out).mono ?_
                    rintro e wr15 ⟨R', n', rc', rfl, hn', hrd', hbc⟩
                    have HNx := Lib.hid hn'
                    have HLx := Lib.hid hrd'
                    have HBC := Lib.hid hbc
                    clear hn' hrd' hbc
                    go_wp2_with fail
                    refine Rg.st_same hK (hHeld.below HBC.out hHeld.lt) (fun hHeld => ?_)
                    clear hK K
                    have HMx := Lib.hid (HMx.out.on HBC.out)
                    have HBR := Lib.hid (HBR.out.trans (HBC.out.mono HBR.out.size))
                    clear HBC
                    try simp only [Rg.e1, Rg.e2, Rg.e3]
                    refine wpAnyH_ready (rs := [8]) (by kernel_rfl) (by simp) ?_
                    refine .cons (o := _) rfl (fun K hK => ?_) ?_
                    · cases Rw3.row (HS.out.below HBR.out).tb
                      go_simp
                      refine Rg.st_same hK (Rw3.far hHeld (by omega) _ _ _) (fun hHeld => ?_)
                      clear hK K
                      obtain ⟨wr16, hw9⟩ : ∃ wr16, wr16 = Rw3.set wr15 g (.int .i64 room) (.int .i64 age) (.map (some b')) := ⟨_, rfl⟩
                      have HSe := Lib.hid (HS.out.below HBR.out)
                      have HRt : Hid (Blk wr16 (g + 1) 34 (rtC room age R n rc)) := Lib.hid (by rw [hw9]; exact Rw3.far HSe.out.rt (by omega) _ _ _)
                      have HW9 := Lib.hid hw9
                      dsimp only [Rw3.set] at hw9
                      rw [← hw9] at hHeld ⊢
                      clear hw9
                      try simp only [Rg.e1, Rg.e2, Rg.e3]
                      refine wpAnyH_ready (rs := [9]) (by kernel_rfl) (by simp) ?_
                      refine .cons (o := _) rfl (fun K hK => ?_) ?_
                      · cases Rw3.row HRt.out
                        go_simp
                        refine Rg.st_same hK (Rw3.far hHeld (by omega) _ _ _) (fun hHeld => ?_)
                        clear hK K
                        obtain ⟨wr17, hw8⟩ : ∃ wr17, wr17 = Rw3.set wr16 (g + 1) (.int .i64 room) (.int .i64 age) (.slice R' n' rc') := ⟨_, rfl⟩
                        have HW8 := Lib.hid hw8
                        dsimp only [Rw3.set] at hw8
                        rw [← hw8] at hHeld ⊢
                        clear hw8
                        try simp only [Rg.e1, Rg.e2, Rg.e3]
                        refine wpAnyH_done (by kernel_rfl) ?_ _
                        go_wp2_with fail
                        go_meet
                        rw [HW8.out, HW9.out]
                        exact HSe.out.store HI'.out HNx.out HMx.out HLx.out ⟨by omega, by omega⟩ (by omega) L0
                      exact AllReadyH.nil
                    exact AllReadyH.nil
                  exact AllReadyH.nil
                exact AllReadyH.nil
              exact AllReadyH.nil
            exact AllReadyH.nil
          have e3 : ((kd : Int) == 3) = false := by simp only [beq_eq_false_iff_ne]; omega
          clear k0 k1 k2 k3
          go_wp2_with fail
          go_meet
          exact HS.out.same HI2.out HN.out
        case rest =>
          obtain ⟨l', b', n', rc', R', hi', hn', ht, hr, hmp, hrd, hx, hy, hmp0, hrd0, hbe⟩ := hcut
          have HT := Lib.hid ht; have HR := Lib.hid hr; have HM := Lib.hid hmp; have HL := Lib.hid hrd; have HX := Lib.hid hx; have HY := Lib.hid hy; have HM0 := Lib.hid hmp0; have HL0 := Lib.hid hrd0; have HW := Lib.hid hbe; have HI := Lib.hid hi'; have HN' := Lib.hid hn'
          clear ht hr hmp hrd hx hy hmp0 hrd0 hbe hi' hn' HS HC
          cases Rw3.row HT.out
          cases Rw3.row HR.out
          go_wp2_with fail
          refine (same_at HI.out HQ.out.2.1 HM.out HL.out HN'.out).mono ?_
          rintro e w5 ⟨rfl, hb⟩
          have HT5 := Lib.hid (HT.out.below hb HT.out.lt)
          have HR5 := Lib.hid (HR.out.below hb HR.out.lt)
          have HX5 := Lib.hid (HX.out.below hb HX.out.lt)
          have HY5 := Lib.hid (HY.out.below hb HY.out.lt)
          have HM5 := Lib.hid (HM.out.on hb)
          have HL5 := Lib.hid ((HL.out.below hb).more hb.size)
          have HM05 := Lib.hid (HM0.out.on hb)
          have HL05 := Lib.hid ((HL0.out.below hb).more hb.size)
          have HW5 := Lib.hid (HW.out.trans (hb.mono HW.out.size))
          clear hb
          cases Rw3.row HX5.out
          cases Rw3.row HY5.out
          go_wp2_with fail
          refine (same_at HI2.out HQ.out.2.1 HM05.out HL05.out HN.out).mono ?_
          rintro e w6 ⟨rfl, hb⟩
          have HT6 := Lib.hid (HT5.out.below hb HT5.out.lt)
          have HR6 := Lib.hid (HR5.out.below hb HR5.out.lt)
          have HM6 := Lib.hid (HM5.out.on hb)
          have HL6 := Lib.hid ((HL5.out.below hb).more hb.size)
          have HW6 := Lib.hid (HW5.out.trans (hb.mono HW5.out.size))
          clear hb
          have hws6 := HW6.out.size
          go_wp2
          go_roundw
          case rel => exact ⟨k + 1, m, l', b', n', rc', R', by omega, by go_num, rfl, hm0, hm1, HI.out, HN'.out, HT6.out, HR6.out, HM6.out, HL6.out, HW6.out, hws6⟩
          case measure => simp [intOf]; omega
    · have hek : ps.length = k := by omega
      have hd : decide ((k : Int) < (ps.length : Int)) = false := decide_eq_false (by omega)
      clear hek
      go_wp2_with fail
      refine (awake11 wr).mono ?_
      rintro e w5 ⟨rfl, hb⟩
      have HW5 := Lib.hid (HW.out.trans (hb.mono hws))
      clear hb
      go_wp2
      go_ret
      exact ⟨rfl, HW5.out⟩
end Go.Proofs.Ytljkodfdiebfiaa.Fd
