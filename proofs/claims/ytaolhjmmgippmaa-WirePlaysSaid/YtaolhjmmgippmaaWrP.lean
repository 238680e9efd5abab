/-
  The statement WirePlays: its walk.
-/
import Derived.Test.YtaolhjmmgippmaaWrT
import Derived.Test.YtaolhjmmgippmaaWrO
namespace Go.Proofs.Ytaolhjmmgippmaa.Wr
open Go.RowKit Go.Proofs.Ytaolhjmmgippmaa.Mm Go.Proofs.Ytaolhjmmgippmaa.Tg Go.Proofs.Ytaolhjmmgippmaa.Lw Go.Proofs.Ytaolhjmmgippmaa.Op
set_option linter.unusedSimpArgs false
set_option linter.unusedVariables false

abbrev wacC (kd : Nat) (s : ByteArray) : Array Value := #[.int .u8 (kd : Int), .string s]
/-- an act out of a slice of acts -/
theorem rd_wact {w : World} {B : Nat} {A : Option Addr} {l : List (Nat × ByteArray)} (h : Rd w B A (wiractsCells l)) {i : Nat} (hi : i < l.length) :
    ∃ ad : Addr, A = some ad ∧ ad.block < B ∧ w.cell? (ad.add (i * 2)) = some (.int .u8 (l[i].1 : Int)) ∧ w.cell? ⟨(ad.add (i * 2)).block, (ad.add (i * 2)).off + 1, none⟩ = some (.string l[i].2) := by
  obtain ⟨ad, e1, e2, e3⟩ := h (by rw [length_wiractsCells]; omega)
  obtain ⟨g0, g1⟩ := get_wiractsCells l i hi
  refine ⟨ad, e1, e2, e3 _ _ g0, ?_⟩
  rw [← add_succ]; exact e3 _ _ g1

theorem setR_len {r : Int} {L : List ByteArray} (v : Bool) (h : (L.length : Int) ≤ r) (h0 : 1 ≤ r) : ((setR v L).length : Int) ≤ r := by
  cases v with
  | true => exact h
  | false => simp [setR]; omega
theorem setR_down (v : Bool) (L : List ByteArray) : v = false → setR v L = [] := by
  intro h
  subst h
  rfl

set_option maxRecDepth 100000 in
set_option maxHeartbeats 8000000 in
theorem plays_walk (r : Int) (ps : List (Nat × ByteArray)) (A : Option Addr) (c : Nat) (w : World)
    (_hr : (Lit.int .i64 r).wf = true) (hm : ps.length ≤ maxLen) (hA : Rd w w.heap.size A (wiractsCells ps)) (hB : ∀ q ∈ ps, q.1 < 256 ∧ q.2.size ≤ maxLen) :
    Calls Try.prog 3 #[.int .i64 r, .slice A ps.length c] w (Law1 w) := by
  unfold maxLen at hm
  have HA := Lib.hid hA; have HB := Lib.hid hB
  clear hA hB _hr

  by_cases h1 : r < 1
  · have c1 : decide (r < 1) = true := decide_eq_true h1
    have HO : Hid (r < 1 ∨ 256 < r) := Lib.hid (.inl h1)
    clear h1
    go_enter Try.func3, Try.ntmps3
    go_wp2_with fail
    refine (new_bad r w HO.out).mono ?_
    rintro e w1 ⟨rfl, hb⟩
    go_upto_region 2 with (fail)
    have HT := Lib.hid (Blk.fresh w1 25 zeroW)
    have HW := Lib.hid (hb.alloc hb.size (.cells zeroW 25))
    obtain ⟨a, ha⟩ : ∃ a, a = w1.heap.size := ⟨_, rfl⟩
    rw [← ha] at HT ⊢
    clear hb ha
    generalize w1.alloc (.cells zeroW 25) = w2 at HT HW ⊢
    go_wp2_with fail
    refine (awake21 w2).mono ?_
    rintro e w3 ⟨rfl, hb⟩
    have HT3 := Lib.hid (HT.out.below hb HT.out.lt)
    have HW3 := Lib.hid (HW.out.trans (hb.mono HW.out.size))
    clear hb
    cases Rw3.row HT3.out
    go_wp2_with fail
    refine (len_any 0 false none 0 0 w3).mono ?_
    rintro e w4 ⟨rfl, hb⟩
    have HW4 := Lib.hid (HW3.out.trans (hb.mono HW3.out.size))
    clear hb
    go_wp2
    go_ret
    exact ⟨rfl, HW4.out⟩
  have c1 : decide (r < 1) = false := decide_eq_false h1
  by_cases h2 : 256 < r
  · have c2 : decide (256 < r) = true := decide_eq_true h2
    have HO : Hid (r < 1 ∨ 256 < r) := Lib.hid (.inr h2)
    clear h1 h2
    go_enter Try.func3, Try.ntmps3
    go_wp2_with fail
    refine (new_bad r w HO.out).mono ?_
    rintro e w1 ⟨rfl, hb⟩
    go_upto_region 2 with (fail)
    have HT := Lib.hid (Blk.fresh w1 25 zeroW)
    have HW := Lib.hid (hb.alloc hb.size (.cells zeroW 25))
    obtain ⟨a, ha⟩ : ∃ a, a = w1.heap.size := ⟨_, rfl⟩
    rw [← ha] at HT ⊢
    clear hb ha
    generalize w1.alloc (.cells zeroW 25) = w2 at HT HW ⊢
    go_wp2_with fail
    refine (awake21 w2).mono ?_
    rintro e w3 ⟨rfl, hb⟩
    have HT3 := Lib.hid (HT.out.below hb HT.out.lt)
    have HW3 := Lib.hid (HW.out.trans (hb.mono HW.out.size))
    clear hb
    cases Rw3.row HT3.out
    go_wp2_with fail
    refine (len_any 0 false none 0 0 w3).mono ?_
    rintro e w4 ⟨rfl, hb⟩
    have HW4 := Lib.hid (HW3.out.trans (hb.mono HW3.out.size))
    clear hb
    go_wp2
    go_ret
    exact ⟨rfl, HW4.out⟩
  have c2 : decide (256 < r) = false := decide_eq_false h2
  have r0 : 1 ≤ r := by omega
  have r1 : r ≤ 256 := by omega
  clear h1 h2

  by_cases h80 : 400 < ps.length
  · have hl2 : decide ((400 : Int) < (ps.length : Int)) = true := decide_eq_true (by omega)
    go_enter Try.func3, Try.ntmps3
    go_wp2_with fail
    refine (new_ok r w r0 r1).mono ?_
    rintro e w1 ⟨rfl, hb⟩
    have HW := Lib.hid (hb.alloc hb.size (.cells (wrC r true none 0 0) 25)); clear hb
    go_wp2_with fail
    refine (awake21 _).mono ?_
    rintro e w2 ⟨rfl, hb⟩
    have HW2 := Lib.hid (HW.out.trans (hb.mono HW.out.size)); clear hb
    go_wp2
    go_ret
    exact ⟨rfl, HW2.out⟩
  have hl2 : decide ((400 : Int) < (ps.length : Int)) = false := decide_eq_false (by omega)
  go_enter Try.func3, Try.ntmps3
  go_wp2_with fail
  refine (new_ok r w r0 r1).mono ?_
  rintro e w1 ⟨rfl, hb⟩
  go_upto_region 7 with (fail)
  obtain ⟨a, ha⟩ : ∃ a, a = w1.heap.size := ⟨_, rfl⟩
  have L0 : w.heap.size ≤ a := by rw [ha]; exact hb.size
  have HT := Lib.hid (blk_two w1 25 32 (wrC r true none 0 0) (wrC r false none 0 0))
  have HR := Lib.hid (fresh_second w1 (.cells (wrC r true none 0 0) 25) 32 (wrC r false none 0 0))
  have HW := Lib.hid (hb.trans ((below_two w1 (.cells (wrC r true none 0 0) 25) (.cells (wrC r false none 0 0) 32)).mono hb.size))
  rw [← ha] at HT HR ⊢
  clear hb ha
  generalize (w1.alloc (.cells (wrC r true none 0 0) 25)).alloc (.cells (wrC r false none 0 0) 32) = w2 at HT HR HW ⊢
  go_wp2_with fail
  go_loopw [65] (fun i wr => ∃ (k : Nat) (u : Bool) (Ap : Option Addr) (n cp : Nat) (Ar : Option Addr) (cr : Nat) (L : List ByteArray), k ≤ ps.length ∧ i = .int .i64 k ∧ (L.length : Int) ≤ r ∧ (u = false → L = []) ∧ Blk wr a 25 (wrC r u Ap n cp) ∧ Blk wr (a + 1) 32 (wrC r (!u) Ar n cr) ∧ Sl wr Ap n cp L ∧ Sl wr Ar n cr L ∧ Below w.heap.size w wr) (fun i _ => ps.length - (intOf i).toNat)
  case atStart => exact ⟨0, true, none, 0, 0, none, 0, [], Nat.zero_le _, rfl, by simp; omega, fun h => rfl, HT.out, HR.out, Sl.noneS _, Sl.noneS _, HW.out⟩
  case round =>
    obtain ⟨k, u, Ap, n, cp, Ar, cr, L, hk, rfl, hlr, hdn, hT, hR, hSp, hSr, hW⟩ := hrel
    clear HT HR HW
    have HT := Lib.hid hT; have HR := Lib.hid hR; have HP := Lib.hid hSp; have HQ := Lib.hid hSr; have HW := Lib.hid hW; have HD := Lib.hid hdn
    clear hT hR hSp hSr hW hdn
    have hn6 : n ≤ 1000000 := by have := HP.out.len; omega
    by_cases hlt : k < ps.length
    · obtain ⟨ad, hAd, hbl, c0, c1'⟩ := rd_wact (HA.out.below HW.out) hlt
      subst hAd
      have hq := HB.out _ (List.getElem_mem hlt)
      obtain ⟨q, hqe⟩ : ∃ q, q = ps[k] := ⟨_, rfl⟩
      rw [← hqe] at c0 c1' hq
      clear hqe
      obtain ⟨kd, s⟩ := q
      dsimp only at c0 c1' hq
      obtain ⟨hq0, hq1⟩ := hq
      unfold maxLen at hq1
      have hi2 : 0 ≤ (k : Int) ∧ (k : Int) < (ps.length : Int) := by omega
      go_upto_region 10 with (fail)
      obtain ⟨z, hz⟩ : ∃ z, z = wr.heap.size := ⟨_, rfl⟩
      have LZ : w.heap.size ≤ z := by rw [hz]; exact HW.out.size
      have LG : a + 1 < z := by rw [hz]; exact HR.out.lt
      have hQ := (Below.refl wr.heap.size wr).alloc (Nat.le_refl _) (.cells (wacC kd s) 34)
      have HT1 := Lib.hid (HT.out.below hQ HT.out.lt)
      have HR1 := Lib.hid (HR.out.below hQ HR.out.lt)
      have HP1 := Lib.hid (HP.out.below hQ)
      have HQ1 := Lib.hid (HQ.out.below hQ)
      have HC1 := Lib.hid (Blk.fresh wr 34 (wacC kd s))
      have HW1 := Lib.hid (HW.out.trans (hQ.mono HW.out.size))
      rw [← hz] at HC1 ⊢
      clear hQ hz HT HR HW HP HQ c0 c1' hbl
      generalize wr.alloc (.cells (wacC kd s) 34) = w3 at HT1 HR1 HC1 HW1 HP1 HQ1 ⊢
      cases Rw2.row HC1.out
      by_cases h2 : 2000 < s.size
      · have d2 : decide ((2000 : Int) < (s.size : Int)) = true := decide_eq_true (by omega)
        clear h2
        go_wp2_with fail
        refine (awake21 w3).mono ?_
        rintro e w5 ⟨rfl, hb⟩
        have HW5 := Lib.hid (HW1.out.trans (hb.mono HW1.out.size)); clear hb
        go_wp2
        go_ret
        exact ⟨rfl, HW5.out⟩
      have d2 : decide ((2000 : Int) < (s.size : Int)) = false := decide_eq_false (by omega)
      clear h2
      go_upto_region 12 with (fail)
      have HAr := HA; clear HA
      have LQ : a + 1 < w3.heap.size := HR1.out.lt
      go_cut [10, 11] (fun s10 s11 wx => ∃ y, s10 = .pointer (some ⟨y, 0, none⟩) ∧ s11 = .int .i64 n ∧ w3.heap.size ≤ y ∧ Blk wx y 25 (wrC r u Ap n cp) ∧ Below w3.heap.size w3 wx)
      case first =>
        refine wp_region_held_drew (S := fun wx => Blk wx a 25 (wrC r u Ap n cp)) (by kernel_rfl) HT1.out.drew (fun hHeld => ?_)
        have HBR := Lib.hid ((Below.refl w3.heap.size w3).drew)
        have KS := Lib.hid (Rg.Keeps.one a 25 (wrC r u Ap n cp))
        generalize w3.drew = wd at hHeld HBR ⊢
        refine Rg.tk 0 (v := ?_) ?_ ?_
        rotate_left
        · intro wx hSx
          cases Rw3.row hSx; go_simp
          all_goals with_reducible rfl
        simp only [Act.put, Rg.e1, Rg.e2, Rg.e3, Rg.e4, Rg.e5, Rg.e6]
        refine Rg.tk 1 (v := ?_) ?_ ?_
        rotate_left
        · intro wx hSx
          cases Rw3.row hSx; go_simp
          all_goals with_reducible rfl
        simp only [Act.put, Rg.e1, Rg.e2, Rg.e3, Rg.e4, Rg.e5, Rg.e6]
        refine wpAnyH_ready (rs := [2, 3]) (by kernel_rfl) (by simp) ?_
        refine .cons (o := _) rfl (fun K hK => ?_) ?_
        · go_simp
          refine (len_any r u Ap n cp wd).mono ?_
          rintro e wr1 ⟨rfl, hbc⟩
          go_wp2_with fail
          refine Rg.st_call hK hHeld KS.out HBR.out hbc ?_
          clear hK K
          intro hHeld hbr
          have HBR := Lib.hid hbr
          clear hbr hbc
          try simp only [Rg.e1, Rg.e2, Rg.e3]
          refine wpAnyH_ready (rs := [3]) (by kernel_rfl) (by simp) ?_
          refine .cons (o := _) rfl (fun K hK => ?_) ?_
          · go_simp
            refine Rg.st_mk hK hHeld KS.out HBR.out ?_
            clear hK K
            have HGA := Lib.hid (HBR.out.size)
            intro wr2 hlt hHeld hblk hbr
            have HBR := Lib.hid hbr
            have HA := Lib.hid hblk
            clear hbr hblk hlt
            try simp only [Rg.e1, Rg.e2, Rg.e3]
            refine wpAnyH_ready (rs := [4]) (by kernel_rfl) (by simp) ?_
            refine .cons (o := _) rfl (fun K hK => ?_) ?_
            · cases Rw3.row HA.out
              go_simp
              have HG := HGA.out
              refine hK.out _ _ (Rw3.far hHeld (by omega) _ _ _) (fun hHeld => ?_)
              clear hK K
              try simp only [Rg.e1, Rg.e2, Rg.e3]
              refine Rg.tk 5 (v := ?_) ?_ ?_
              rotate_left
              · (intro wx hSx; go_simp; all_goals with_reducible rfl)
              simp only [Act.put, Rg.e1, Rg.e2, Rg.e3, Rg.e4, Rg.e5, Rg.e6]
              refine wpAnyH_done (by kernel_rfl) ?_ _
              go_wp2_with fail
              go_meet
              exact ⟨_, rfl, rfl, HGA.out, Rw3.blk_set HA.out _ _ _, Rw3.below_set HBR.out HGA.out _ _ _⟩
            exact AllReadyH.nil
          exact AllReadyH.nil
        refine .cons (o := _) rfl (fun K hK => ?_) ?_
        · go_simp
          refine Rg.st_mk hK hHeld KS.out HBR.out ?_
          clear hK K
          have HGA := Lib.hid (HBR.out.size)
          intro wr4 hlt hHeld hblk hbr
          have HBR := Lib.hid hbr
          have HA := Lib.hid hblk
          clear hbr hblk hlt
          try simp only [Rg.e1, Rg.e2, Rg.e3]
          refine wpAnyH_ready (rs := [2]) (by kernel_rfl) (by simp) ?_
          refine .cons (o := _) rfl (fun K hK => ?_) ?_
          · go_simp
            refine (len_any r u Ap n cp wr4).mono ?_
            rintro e wr5 ⟨rfl, hbc⟩
            go_wp2_with fail
            have HA9 := HA
            have HA := Lib.hid (HA9.out.below hbc HA9.out.lt)
            clear HA9
            refine Rg.st_call hK hHeld KS.out HBR.out hbc ?_
            clear hK K
            intro hHeld hbr
            have HBR := Lib.hid hbr
            clear hbr hbc
            try simp only [Rg.e1, Rg.e2, Rg.e3]
            refine wpAnyH_ready (rs := [4]) (by kernel_rfl) (by simp) ?_
            refine .cons (o := _) rfl (fun K hK => ?_) ?_
            · cases Rw3.row HA.out
              go_simp
              have HG := HGA.out
              refine hK.out _ _ (Rw3.far hHeld (by omega) _ _ _) (fun hHeld => ?_)
              clear hK K
              try simp only [Rg.e1, Rg.e2, Rg.e3]
              refine Rg.tk 5 (v := ?_) ?_ ?_
              rotate_left
              · (intro wx hSx; go_simp; all_goals with_reducible rfl)
              simp only [Act.put, Rg.e1, Rg.e2, Rg.e3, Rg.e4, Rg.e5, Rg.e6]
              refine wpAnyH_done (by kernel_rfl) ?_ _
              go_wp2_with fail
              go_meet
              exact ⟨_, rfl, rfl, HGA.out, Rw3.blk_set HA.out _ _ _, Rw3.below_set HBR.out HGA.out _ _ _⟩
            exact AllReadyH.nil
          exact AllReadyH.nil
        exact AllReadyH.nil
      case rest =>
        obtain ⟨y, rfl, rfl, LY, hY, hb⟩ := hcut
        have HT := Lib.hid (HT1.out.below hb HT1.out.lt); have HR := Lib.hid (HR1.out.below hb HR1.out.lt); have HP := Lib.hid (HP1.out.below hb); have HQ := Lib.hid (HQ1.out.below hb)
        have HC := Lib.hid (HC1.out.below hb HC1.out.lt); have HY := Lib.hid hY; have HW := Lib.hid (HW1.out.trans (hb.mono HW1.out.size))
        have LX : z < y := Nat.lt_of_lt_of_le HC1.out.lt LY
        clear hb hY HT1 HR1 HP1 HQ1 HC1 HW1 LY
        cases Rw2.row HC.out
        go_upto_block 2 with (fail)
        go_cut [] (fun wx => ∃ (u' : Bool) (A' : Option Addr) (n' c' : Nat) (R' : Option Addr) (C' : Nat) (L' : List ByteArray), (L'.length : Int) ≤ r ∧ (u' = false → L' = []) ∧ Blk wx a 25 (wrC r u' A' n' c') ∧ Blk wx (a + 1) 32 (wrC r (!u') R' n' C') ∧ Blk wx y 25 (wrC r u Ap n cp) ∧ Sl wx A' n' c' L' ∧ Sl wx R' n' C' L' ∧ Below w.heap.size w wx)
        case first =>
          by_cases k0 : kd = 0
          · have e0 : ((kd : Int) == 0) = true := by simp [k0]
            clear k0
            obtain ⟨⟨L', ok⟩, hp⟩ : ∃ x, pushR r u L s = x := ⟨_, rfl⟩
            have hl' := pushR_len hp hlr
            have HD' := Lib.hid (pushR_down hp HD.out)
            have HPU := Lib.hid hp; clear hp
            cases Rw3.row HT.out
            go_wp2_with fail
            refine (push_any r u Ap n cp s wc HPU.out HP.out hn6).mono ?_
            rintro e w5 ⟨A2, n2, c2, rfl, hS, hb⟩
            have HT5 := Lib.hid (HT.out.below hb HT.out.lt)
            have HR5 := Lib.hid (HR.out.below hb HR.out.lt)
            have HC5 := Lib.hid (HC.out.below hb HC.out.lt)
            have HY5 := Lib.hid (HY.out.below hb HY.out.lt)
            have HQ5 := Lib.hid (HQ.out.below hb)
            have HU5 := Lib.hid hS
            have HW5 := Lib.hid (HW.out.trans (hb.mono HW.out.size))
            clear hb hS HT HR HC HY HQ HP HW
            go_upto_region 16 with (fail)
            obtain ⟨w6, hw, b1, b2, b3, b4, b5, q1, q2, l⟩ : ∃ w6 : World, w6 = w5.alloc (.cells (wrC r u A2 n2 c2) 25) ∧ Blk w6 a 25 (wrC r u Ap n cp) ∧ Blk w6 (a + 1) 32 (wrC r (!u) Ar n cr) ∧ Blk w6 z 34 (wacC kd s) ∧ Blk w6 y 25 (wrC r u Ap n cp) ∧ Blk w6 w5.heap.size 25 (wrC r u A2 n2 c2) ∧ Sl w6 Ar n cr L ∧ Sl w6 A2 n2 c2 L' ∧ Below w.heap.size w w6 := ⟨_, rfl, HT5.out.alloc _, HR5.out.alloc _, HC5.out.alloc _, HY5.out.alloc _, Blk.fresh _ _ _, HQ5.out.below ((Below.refl _ _).alloc (Nat.le_refl _) _), HU5.out.below ((Below.refl _ _).alloc (Nat.le_refl _) _), HW5.out.alloc HW5.out.size _⟩
            rw [← hw]
            have LU : y < w5.heap.size := HY5.out.lt
            generalize w5.heap.size = v1 at b5 LU ⊢
            have HT := Lib.hid b1; have HR := Lib.hid b2; have HC := Lib.hid b3; have HY := Lib.hid b4; have HX := Lib.hid b5; have HQ := Lib.hid q1; have HU := Lib.hid q2; have HW := Lib.hid l
            clear hw b1 b2 b3 b4 b5 q1 q2 l HT5 HR5 HC5 HY5 HQ5 HU5 HW5
            cases Rw3.row HR.out
            cases Rw2.row HC.out
            go_wp2_with fail
            refine (rpush_any r u Ar n cr s w6 HPU.out HQ.out hn6).mono ?_
            rintro e w7 ⟨A3, n3, c3, rfl, hS, hb⟩
            have hnn : n3 = n2 := hS.len.symm.trans HU.out.len
            subst hnn
            have HT7 := Lib.hid (HT.out.below hb HT.out.lt)
            have HR7 := Lib.hid (HR.out.below hb HR.out.lt)
            have HY7 := Lib.hid (HY.out.below hb HY.out.lt)
            have HX7 := Lib.hid (HX.out.below hb HX.out.lt)
            have HU7 := Lib.hid (HU.out.below hb)
            have HV7 := Lib.hid hS
            have HW7 := Lib.hid (HW.out.trans (hb.mono HW.out.size))
            clear hb hS HT HR HC HY HX HQ HU HW
            go_upto_region 17 with (fail)
            obtain ⟨w8, hw, b1, b2, b4, b5, b6, q1, q2, l⟩ : ∃ w8 : World, w8 = w7.alloc (.cells (wrC r (!u) A3 n3 c3) 32) ∧ Blk w8 a 25 (wrC r u Ap n cp) ∧ Blk w8 (a + 1) 32 (wrC r (!u) Ar n cr) ∧ Blk w8 y 25 (wrC r u Ap n cp) ∧ Blk w8 v1 25 (wrC r u A2 n3 c2) ∧ Blk w8 w7.heap.size 32 (wrC r (!u) A3 n3 c3) ∧ Sl w8 A2 n3 c2 L' ∧ Sl w8 A3 n3 c3 L' ∧ Below w.heap.size w w8 := ⟨_, rfl, HT7.out.alloc _, HR7.out.alloc _, HY7.out.alloc _, HX7.out.alloc _, Blk.fresh _ _ _, HU7.out.below ((Below.refl _ _).alloc (Nat.le_refl _) _), HV7.out.below ((Below.refl _ _).alloc (Nat.le_refl _) _), HW7.out.alloc HW7.out.size _⟩
            rw [← hw]
            have LV : v1 < w7.heap.size := HX7.out.lt
            generalize w7.heap.size = v2 at b6 LV ⊢
            have HT := Lib.hid b1; have HR := Lib.hid b2; have HY := Lib.hid b4; have HX := Lib.hid b5; have HZ := Lib.hid b6; have HU := Lib.hid q1; have HV := Lib.hid q2; have HW := Lib.hid l
            clear hw b1 b2 b4 b5 b6 q1 q2 l HT7 HR7 HY7 HX7 HU7 HV7 HW7
            cases Rw3.row HT.out
            cases Rw3.row HR.out
            cases Rw3.row HX.out
            cases Rw3.row HZ.out
            go_region
            obtain ⟨w9, hw, b1, b2, b3, q1, q2, l⟩ : ∃ w9 : World, w9 = (Rw3.set (Rw3.set w8 a (.int .i64 r) (.bool u) (.slice A2 n3 c2)) (a + 1) (.int .i64 r) (.bool (!u)) (.slice A3 n3 c3)).drew ∧ Blk w9 a 25 (wrC r u A2 n3 c2) ∧ Blk w9 (a + 1) 32 (wrC r (!u) A3 n3 c3) ∧ Blk w9 y 25 (wrC r u Ap n cp) ∧ Sl w9 A2 n3 c2 L' ∧ Sl w9 A3 n3 c3 L' ∧ Below w.heap.size w w9 :=
              ⟨_, rfl, (Rw3.far (Rw3.blk_set HT.out _ _ _) (by omega) _ _ _).drew, (Rw3.blk_set (Rw3.far HR.out (by omega) _ _ _) _ _ _).drew, (Rw3.far (Rw3.far HY.out (by omega) _ _ _) (by omega) _ _ _).drew, ((HU.out.set3 HT.out _ _ _).set3 (Rw3.far HR.out (by omega) _ _ _) _ _ _).drew, ((HV.out.set3 HT.out _ _ _).set3 (Rw3.far HR.out (by omega) _ _ _) _ _ _).drew, (Rw3.below_set (Rw3.below_set HW.out L0 _ _ _) (by omega) _ _ _).drew⟩
            dsimp only [Rw3.set] at hw
            rw [← hw]
            have HT9 := Lib.hid b1; have HR9 := Lib.hid b2; have HY9 := Lib.hid b3; have HP9 := Lib.hid q1; have HQ9 := Lib.hid q2; have HW9 := Lib.hid l
            clear hw b1 b2 b3 q1 q2 l HT HR HY HX HZ HU HV HW
            have f1 : (ok != ok) = false := by simp
            go_wp2_with fail
            go_meet
            exact ⟨u, A2, n3, c2, A3, c3, L', hl', HD'.out, HT9.out, HR9.out, HY9.out, HP9.out, HQ9.out, HW9.out⟩
          have e0 : ((kd : Int) == 0) = false := by simp only [beq_eq_false_iff_ne]; omega
          by_cases k1 : kd = 1
          · have e1 : ((kd : Int) == 1) = true := by simp [k1]
            clear k0 k1
            obtain ⟨⟨L', s1, ok⟩, hp⟩ : ∃ x, popR L = x := ⟨_, rfl⟩
            have hl' : (L'.length : Int) ≤ r := by have := (popR_len hp).1; omega
            have HD' := Lib.hid (popR_down hp HD.out)
            have HPU := Lib.hid hp; clear hp
            cases Rw3.row HT.out
            go_wp2_with fail
            refine (pop_any r u Ap n cp wc HPU.out HP.out hn6).mono ?_
            rintro e w5 ⟨A2, n2, c2, rfl, hS, hb⟩
            have HT5 := Lib.hid (HT.out.below hb HT.out.lt)
            have HR5 := Lib.hid (HR.out.below hb HR.out.lt)
            have HC5 := Lib.hid (HC.out.below hb HC.out.lt)
            have HY5 := Lib.hid (HY.out.below hb HY.out.lt)
            have HQ5 := Lib.hid (HQ.out.below hb)
            have HU5 := Lib.hid hS
            have HW5 := Lib.hid (HW.out.trans (hb.mono HW.out.size))
            clear hb hS HT HR HC HY HQ HP HW
            go_upto_region 22 with (fail)
            obtain ⟨w6, hw, b1, b2, b3, b4, b5, q1, q2, l⟩ : ∃ w6 : World, w6 = w5.alloc (.cells (wrC r u A2 n2 c2) 25) ∧ Blk w6 a 25 (wrC r u Ap n cp) ∧ Blk w6 (a + 1) 32 (wrC r (!u) Ar n cr) ∧ Blk w6 z 34 (wacC kd s) ∧ Blk w6 y 25 (wrC r u Ap n cp) ∧ Blk w6 w5.heap.size 25 (wrC r u A2 n2 c2) ∧ Sl w6 Ar n cr L ∧ Sl w6 A2 n2 c2 L' ∧ Below w.heap.size w w6 := ⟨_, rfl, HT5.out.alloc _, HR5.out.alloc _, HC5.out.alloc _, HY5.out.alloc _, Blk.fresh _ _ _, HQ5.out.below ((Below.refl _ _).alloc (Nat.le_refl _) _), HU5.out.below ((Below.refl _ _).alloc (Nat.le_refl _) _), HW5.out.alloc HW5.out.size _⟩
            rw [← hw]
            have LU : y < w5.heap.size := HY5.out.lt
            generalize w5.heap.size = v1 at b5 LU ⊢
            have HT := Lib.hid b1; have HR := Lib.hid b2; have HC := Lib.hid b3; have HY := Lib.hid b4; have HX := Lib.hid b5; have HQ := Lib.hid q1; have HU := Lib.hid q2; have HW := Lib.hid l
            clear hw b1 b2 b3 b4 b5 q1 q2 l HT5 HR5 HC5 HY5 HQ5 HU5 HW5
            cases Rw3.row HR.out
            cases Rw2.row HC.out
            go_wp2_with fail
            refine (rpop_any r (!u) Ar n cr w6 HPU.out HQ.out hn6).mono ?_
            rintro e w7 ⟨A3, n3, c3, rfl, hS, hb⟩
            have hnn : n3 = n2 := hS.len.symm.trans HU.out.len
            subst hnn
            have HT7 := Lib.hid (HT.out.below hb HT.out.lt)
            have HR7 := Lib.hid (HR.out.below hb HR.out.lt)
            have HY7 := Lib.hid (HY.out.below hb HY.out.lt)
            have HX7 := Lib.hid (HX.out.below hb HX.out.lt)
            have HU7 := Lib.hid (HU.out.below hb)
            have HV7 := Lib.hid hS
            have HW7 := Lib.hid (HW.out.trans (hb.mono HW.out.size))
            clear hb hS HT HR HC HY HX HQ HU HW
            go_upto_region 23 with (fail)
            obtain ⟨w8, hw, b1, b2, b4, b5, b6, q1, q2, l⟩ : ∃ w8 : World, w8 = w7.alloc (.cells (wrC r (!u) A3 n3 c3) 32) ∧ Blk w8 a 25 (wrC r u Ap n cp) ∧ Blk w8 (a + 1) 32 (wrC r (!u) Ar n cr) ∧ Blk w8 y 25 (wrC r u Ap n cp) ∧ Blk w8 v1 25 (wrC r u A2 n3 c2) ∧ Blk w8 w7.heap.size 32 (wrC r (!u) A3 n3 c3) ∧ Sl w8 A2 n3 c2 L' ∧ Sl w8 A3 n3 c3 L' ∧ Below w.heap.size w w8 := ⟨_, rfl, HT7.out.alloc _, HR7.out.alloc _, HY7.out.alloc _, HX7.out.alloc _, Blk.fresh _ _ _, HU7.out.below ((Below.refl _ _).alloc (Nat.le_refl _) _), HV7.out.below ((Below.refl _ _).alloc (Nat.le_refl _) _), HW7.out.alloc HW7.out.size _⟩
            rw [← hw]
            have LV : v1 < w7.heap.size := HX7.out.lt
            generalize w7.heap.size = v2 at b6 LV ⊢
            have HT := Lib.hid b1; have HR := Lib.hid b2; have HY := Lib.hid b4; have HX := Lib.hid b5; have HZ := Lib.hid b6; have HU := Lib.hid q1; have HV := Lib.hid q2; have HW := Lib.hid l
            clear hw b1 b2 b4 b5 b6 q1 q2 l HT7 HR7 HY7 HX7 HU7 HV7 HW7
            cases Rw3.row HT.out
            cases Rw3.row HR.out
            cases Rw3.row HX.out
            cases Rw3.row HZ.out
            go_region
            obtain ⟨w9, hw, b1, b2, b3, q1, q2, l⟩ : ∃ w9 : World, w9 = (Rw3.set (Rw3.set w8 a (.int .i64 r) (.bool u) (.slice A2 n3 c2)) (a + 1) (.int .i64 r) (.bool (!u)) (.slice A3 n3 c3)).drew ∧ Blk w9 a 25 (wrC r u A2 n3 c2) ∧ Blk w9 (a + 1) 32 (wrC r (!u) A3 n3 c3) ∧ Blk w9 y 25 (wrC r u Ap n cp) ∧ Sl w9 A2 n3 c2 L' ∧ Sl w9 A3 n3 c3 L' ∧ Below w.heap.size w w9 :=
              ⟨_, rfl, (Rw3.far (Rw3.blk_set HT.out _ _ _) (by omega) _ _ _).drew, (Rw3.blk_set (Rw3.far HR.out (by omega) _ _ _) _ _ _).drew, (Rw3.far (Rw3.far HY.out (by omega) _ _ _) (by omega) _ _ _).drew, ((HU.out.set3 HT.out _ _ _).set3 (Rw3.far HR.out (by omega) _ _ _) _ _ _).drew, ((HV.out.set3 HT.out _ _ _).set3 (Rw3.far HR.out (by omega) _ _ _) _ _ _).drew, (Rw3.below_set (Rw3.below_set HW.out L0 _ _ _) (by omega) _ _ _).drew⟩
            dsimp only [Rw3.set] at hw
            rw [← hw]
            have HT9 := Lib.hid b1; have HR9 := Lib.hid b2; have HY9 := Lib.hid b3; have HP9 := Lib.hid q1; have HQ9 := Lib.hid q2; have HW9 := Lib.hid l
            clear hw b1 b2 b3 q1 q2 l HT HR HY HX HZ HU HV HW
            have f1 : (ok != ok) = false := by simp
            have f2 : (s1.toList != s1.toList) = false := by simp
            go_wp2_with fail
            go_meet
            exact ⟨u, A2, n3, c2, A3, c3, L', hl', HD'.out, HT9.out, HR9.out, HY9.out, HP9.out, HQ9.out, HW9.out⟩
          have e1 : ((kd : Int) == 1) = false := by simp only [beq_eq_false_iff_ne]; omega
          by_cases k2 : kd = 2
          · have e2 : ((kd : Int) == 2) = true := by simp [k2]
            clear k0 k1 k2
            go_upto_region 28 with (fail)
            refine wp_region_held_drew (S := fun wx => Blk wx z 34 (wacC kd s)) (by kernel_rfl) HC.out.drew (fun hHeld => ?_)
            have HBR := Lib.hid ((Below.refl wc.heap.size wc).drew)
            generalize wc.drew = wd at hHeld HBR ⊢
            refine Rg.tk 1 (v := ?_) ?_ ?_
            rotate_left
            · (intro wx hSx; go_simp; all_goals with_reducible rfl)
            simp only [Act.put, Rg.e1, Rg.e2, Rg.e3, Rg.e4, Rg.e5, Rg.e6]
            refine Rg.tk 2 (v := ?_) ?_ ?_
            rotate_left
            · intro wx hSx
              cases Rw2.row hSx; go_simp
              all_goals with_reducible rfl
            simp only [Act.put, Rg.e1, Rg.e2, Rg.e3, Rg.e4, Rg.e5, Rg.e6]
            refine Rg.tk 3 (v := ?_) ?_ ?_
            rotate_left
            · (intro wx hSx; go_simp; all_goals with_reducible rfl)
            simp only [Act.put, Rg.e1, Rg.e2, Rg.e3, Rg.e4, Rg.e5, Rg.e6]
            refine Rg.tk 6 (v := ?_) ?_ ?_
            rotate_left
            · (intro wx hSx; go_simp; all_goals with_reducible rfl)
            simp only [Act.put, Rg.e1, Rg.e2, Rg.e3, Rg.e4, Rg.e5, Rg.e6]
            refine Rg.tk 7 (v := ?_) ?_ ?_
            rotate_left
            · intro wx hSx
              cases Rw2.row hSx; go_simp
              all_goals with_reducible rfl
            simp only [Act.put, Rg.e1, Rg.e2, Rg.e3, Rg.e4, Rg.e5, Rg.e6]
            refine Rg.tk 8 (v := ?_) ?_ ?_
            rotate_left
            · (intro wx hSx; go_simp; all_goals with_reducible rfl)
            simp only [Act.put, Rg.e1, Rg.e2, Rg.e3, Rg.e4, Rg.e5, Rg.e6]
            refine wpAnyH_ready (rs := [0, 5]) (by kernel_rfl) (by simp) ?_
            refine .cons (o := _) rfl (fun K hK => ?_) ?_
            · cases Rw3.row (HT.out.below HBR.out HT.out.lt)
              go_simp
              refine Rg.st_same hK hHeld (fun hHeld => ?_)
              clear hK K
              try simp only [Rg.e1, Rg.e2, Rg.e3]
              refine wpAnyH_ready (rs := [4, 5]) (by kernel_rfl) (by simp) ?_
              refine .cons (o := _) rfl (fun K hK => ?_) ?_
              · go_simp
                refine (set_any r u true Ap n cp wd HD.out (HP.out.below HBR.out)).mono ?_
                rintro e wr2 ⟨A2, n2, c2, rfl, hS2, hbc⟩
                have HU := Lib.hid hS2
                have HBC := Lib.hid hbc
                clear hbc hS2
                go_wp2_with fail
                refine Rg.st_same hK (hHeld.below HBC.out hHeld.lt) (fun hHeld => ?_)
                clear hK K
                have HBR := Lib.hid (HBR.out.trans (HBC.out.mono HBR.out.size))
                clear HBC
                try simp only [Rg.e1, Rg.e2, Rg.e3]
                refine wpAnyH_ready (rs := [5]) (by kernel_rfl) (by simp) ?_
                refine .cons (o := _) rfl (fun K hK => ?_) ?_
                · cases Rw3.row (HR.out.below HBR.out HR.out.lt)
                  go_simp
                  refine Rg.st_same hK hHeld (fun hHeld => ?_)
                  clear hK K
                  try simp only [Rg.e1, Rg.e2, Rg.e3]
                  refine wpAnyH_ready (rs := [9]) (by kernel_rfl) (by simp) ?_
                  refine .cons (o := _) rfl (fun K hK => ?_) ?_
                  · go_simp
                    refine (rset_any r u true Ar n cr wr2 (HQ.out.below HBR.out)).mono ?_
                    rintro e wr4 ⟨A3, n3, c3, rfl, hS3, hbc⟩
                    have hnn : n3 = n2 := hS3.len.symm.trans HU.out.len
                    subst hnn
                    have HU2 := Lib.hid (HU.out.below hbc)
                    have HV2 := Lib.hid hS3
                    have HBC := Lib.hid hbc
                    clear hbc hS3
                    go_wp2_with fail
                    refine Rg.st_same hK (hHeld.below HBC.out hHeld.lt) (fun hHeld => ?_)
                    clear hK K
                    have HBR := Lib.hid (HBR.out.trans (HBC.out.mono HBR.out.size))
                    clear HBC HU
                    try simp only [Rg.e1, Rg.e2, Rg.e3]
                    refine wpAnyH_ready (rs := [10]) (by kernel_rfl) (by simp) ?_
                    refine .cons (o := _) rfl (fun K hK => ?_) ?_
                    · cases Rw3.row (HT.out.below HBR.out HT.out.lt)
                      go_simp
                      have hTx := HT.out.below HBR.out HT.out.lt
                      have hRx := HR.out.below HBR.out HR.out.lt
                      have hYx := HY.out.below HBR.out HY.out.lt
                      refine Rg.st_same hK (Rw3.far hHeld (by omega) _ _ _) (fun hHeld => ?_)
                      clear hK K
                      obtain ⟨wr5, hw9⟩ : ∃ wr5, wr5 = Rw3.set wr4 a (.int .i64 r) (.bool true) (.slice A2 n3 c2) := ⟨_, rfl⟩
                      have HTt : Hid (Blk wr5 a 25 (wrC r true A2 n3 c2)) := Lib.hid (by rw [hw9]; exact Rw3.blk_set hTx _ _ _)
                      have HRt : Hid (Blk wr5 (a + 1) 32 (wrC r (!u) Ar n cr)) := Lib.hid (by rw [hw9]; exact Rw3.far hRx (by omega) _ _ _)
                      have HYt : Hid (Blk wr5 y 25 (wrC r u Ap n cp)) := Lib.hid (by rw [hw9]; exact Rw3.far hYx (by omega) _ _ _)
                      have HUt : Hid (Sl wr5 A2 n3 c2 (setR true L)) := Lib.hid (by rw [hw9]; exact HU2.out.set3 hTx _ _ _)
                      have HVt : Hid (Sl wr5 A3 n3 c3 (setR true L)) := Lib.hid (by rw [hw9]; exact HV2.out.set3 hTx _ _ _)
                      have HWt : Hid (Below w.heap.size w wr5) := Lib.hid (by rw [hw9]; exact Rw3.below_set (HW.out.trans (HBR.out.mono HW.out.size)) L0 _ _ _)
                      dsimp only [Rw3.set] at hw9
                      rw [← hw9] at hHeld ⊢
                      clear hw9 hTx hRx hYx
                      try simp only [Rg.e1, Rg.e2, Rg.e3]
                      refine wpAnyH_ready (rs := [11]) (by kernel_rfl) (by simp) ?_
                      refine .cons (o := _) rfl (fun K hK => ?_) ?_
                      · cases Rw3.row HRt.out
                        go_simp
                        refine Rg.st_same hK (Rw3.far hHeld (by omega) _ _ _) (fun hHeld => ?_)
                        clear hK K
                        obtain ⟨wr6, hw9⟩ : ∃ wr6, wr6 = Rw3.set wr5 (a + 1) (.int .i64 r) (.bool false) (.slice A3 n3 c3) := ⟨_, rfl⟩
                        have HTu : Hid (Blk wr6 a 25 (wrC r true A2 n3 c2)) := Lib.hid (by rw [hw9]; exact Rw3.far HTt.out (by omega) _ _ _)
                        have HRu : Hid (Blk wr6 (a + 1) 32 (wrC r false A3 n3 c3)) := Lib.hid (by rw [hw9]; exact Rw3.blk_set HRt.out _ _ _)
                        have HYu : Hid (Blk wr6 y 25 (wrC r u Ap n cp)) := Lib.hid (by rw [hw9]; exact Rw3.far HYt.out (by omega) _ _ _)
                        have HUu : Hid (Sl wr6 A2 n3 c2 (setR true L)) := Lib.hid (by rw [hw9]; exact HUt.out.set3 HRt.out _ _ _)
                        have HVu : Hid (Sl wr6 A3 n3 c3 (setR true L)) := Lib.hid (by rw [hw9]; exact HVt.out.set3 HRt.out _ _ _)
                        have HWu : Hid (Below w.heap.size w wr6) := Lib.hid (by rw [hw9]; exact Rw3.below_set HWt.out (by omega) _ _ _)
                        dsimp only [Rw3.set] at hw9
                        rw [← hw9] at hHeld ⊢
                        clear hw9
                        try simp only [Rg.e1, Rg.e2, Rg.e3]
                        refine wpAnyH_done (by kernel_rfl) ?_ _
                        go_wp2_with fail
                        go_meet
                        exact ⟨true, A2, n3, c2, A3, c3, setR true L, setR_len true hlr r0, setR_down true L, HTu.out, HRu.out, HYu.out, HUu.out, HVu.out, HWu.out⟩
                      exact AllReadyH.nil
                    exact AllReadyH.nil
                  exact AllReadyH.nil
                exact AllReadyH.nil
              refine .cons (o := _) rfl (fun K hK => ?_) ?_
              · cases Rw3.row (HR.out.below HBR.out HR.out.lt)
                go_simp
                refine Rg.st_same hK hHeld (fun hHeld => ?_)
                clear hK K
                try simp only [Rg.e1, Rg.e2, Rg.e3]
                refine wpAnyH_ready (rs := [4]) (by kernel_rfl) (by simp) ?_
                refine .cons (o := _) rfl (fun K hK => ?_) ?_
                · go_simp
                  refine (set_any r u true Ap n cp wd HD.out (HP.out.below HBR.out)).mono ?_
                  rintro e wr8 ⟨A2, n2, c2, rfl, hS2, hbc⟩
                  have HU := Lib.hid hS2
                  have HBC := Lib.hid hbc
                  clear hbc hS2
                  go_wp2_with fail
                  refine Rg.st_same hK (hHeld.below HBC.out hHeld.lt) (fun hHeld => ?_)
                  clear hK K
                  have HBR := Lib.hid (HBR.out.trans (HBC.out.mono HBR.out.size))
                  clear HBC
                  try simp only [Rg.e1, Rg.e2, Rg.e3]
                  refine wpAnyH_ready (rs := [9]) (by kernel_rfl) (by simp) ?_
                  refine .cons (o := _) rfl (fun K hK => ?_) ?_
                  · go_simp
                    refine (rset_any r u true Ar n cr wr8 (HQ.out.below HBR.out)).mono ?_
                    rintro e wr9 ⟨A3, n3, c3, rfl, hS3, hbc⟩
                    have hnn : n3 = n2 := hS3.len.symm.trans HU.out.len
                    subst hnn
                    have HU2 := Lib.hid (HU.out.below hbc)
                    have HV2 := Lib.hid hS3
                    have HBC := Lib.hid hbc
                    clear hbc hS3
                    go_wp2_with fail
                    refine Rg.st_same hK (hHeld.below HBC.out hHeld.lt) (fun hHeld => ?_)
                    clear hK K
                    have HBR := Lib.hid (HBR.out.trans (HBC.out.mono HBR.out.size))
                    clear HBC HU
                    try simp only [Rg.e1, Rg.e2, Rg.e3]
                    refine wpAnyH_ready (rs := [10]) (by kernel_rfl) (by simp) ?_
                    refine .cons (o := _) rfl (fun K hK => ?_) ?_
                    · cases Rw3.row (HT.out.below HBR.out HT.out.lt)
                      go_simp
                      have hTx := HT.out.below HBR.out HT.out.lt
                      have hRx := HR.out.below HBR.out HR.out.lt
                      have hYx := HY.out.below HBR.out HY.out.lt
                      refine Rg.st_same hK (Rw3.far hHeld (by omega) _ _ _) (fun hHeld => ?_)
                      clear hK K
                      obtain ⟨wr10, hw9⟩ : ∃ wr10, wr10 = Rw3.set wr9 a (.int .i64 r) (.bool true) (.slice A2 n3 c2) := ⟨_, rfl⟩
                      have HTt : Hid (Blk wr10 a 25 (wrC r true A2 n3 c2)) := Lib.hid (by rw [hw9]; exact Rw3.blk_set hTx _ _ _)
                      have HRt : Hid (Blk wr10 (a + 1) 32 (wrC r (!u) Ar n cr)) := Lib.hid (by rw [hw9]; exact Rw3.far hRx (by omega) _ _ _)
                      have HYt : Hid (Blk wr10 y 25 (wrC r u Ap n cp)) := Lib.hid (by rw [hw9]; exact Rw3.far hYx (by omega) _ _ _)
                      have HUt : Hid (Sl wr10 A2 n3 c2 (setR true L)) := Lib.hid (by rw [hw9]; exact HU2.out.set3 hTx _ _ _)
                      have HVt : Hid (Sl wr10 A3 n3 c3 (setR true L)) := Lib.hid (by rw [hw9]; exact HV2.out.set3 hTx _ _ _)
                      have HWt : Hid (Below w.heap.size w wr10) := Lib.hid (by rw [hw9]; exact Rw3.below_set (HW.out.trans (HBR.out.mono HW.out.size)) L0 _ _ _)
                      dsimp only [Rw3.set] at hw9
                      rw [← hw9] at hHeld ⊢
                      clear hw9 hTx hRx hYx
                      try simp only [Rg.e1, Rg.e2, Rg.e3]
                      refine wpAnyH_ready (rs := [11]) (by kernel_rfl) (by simp) ?_
                      refine .cons (o := _) rfl (fun K hK => ?_) ?_
                      · cases Rw3.row HRt.out
                        go_simp
                        refine Rg.st_same hK (Rw3.far hHeld (by omega) _ _ _) (fun hHeld => ?_)
                        clear hK K
                        obtain ⟨wr11, hw9⟩ : ∃ wr11, wr11 = Rw3.set wr10 (a + 1) (.int .i64 r) (.bool false) (.slice A3 n3 c3) := ⟨_, rfl⟩
                        have HTu : Hid (Blk wr11 a 25 (wrC r true A2 n3 c2)) := Lib.hid (by rw [hw9]; exact Rw3.far HTt.out (by omega) _ _ _)
                        have HRu : Hid (Blk wr11 (a + 1) 32 (wrC r false A3 n3 c3)) := Lib.hid (by rw [hw9]; exact Rw3.blk_set HRt.out _ _ _)
                        have HYu : Hid (Blk wr11 y 25 (wrC r u Ap n cp)) := Lib.hid (by rw [hw9]; exact Rw3.far HYt.out (by omega) _ _ _)
                        have HUu : Hid (Sl wr11 A2 n3 c2 (setR true L)) := Lib.hid (by rw [hw9]; exact HUt.out.set3 HRt.out _ _ _)
                        have HVu : Hid (Sl wr11 A3 n3 c3 (setR true L)) := Lib.hid (by rw [hw9]; exact HVt.out.set3 HRt.out _ _ _)
                        have HWu : Hid (Below w.heap.size w wr11) := Lib.hid (by rw [hw9]; exact Rw3.below_set HWt.out (by omega) _ _ _)
                        dsimp only [Rw3.set] at hw9
                        rw [← hw9] at hHeld ⊢
                        clear hw9
                        try simp only [Rg.e1, Rg.e2, Rg.e3]
                        refine wpAnyH_done (by kernel_rfl) ?_ _
                        go_wp2_with fail
                        go_meet
                        exact ⟨true, A2, n3, c2, A3, c3, setR true L, setR_len true hlr r0, setR_down true L, HTu.out, HRu.out, HYu.out, HUu.out, HVu.out, HWu.out⟩
                      exact AllReadyH.nil
                    exact AllReadyH.nil
                  exact AllReadyH.nil
                exact AllReadyH.nil
              exact AllReadyH.nil
            refine .cons (o := _) rfl (fun K hK => ?_) ?_
            · cases Rw3.row (HR.out.below HBR.out HR.out.lt)
              go_simp
              refine Rg.st_same hK hHeld (fun hHeld => ?_)
              clear hK K
              try simp only [Rg.e1, Rg.e2, Rg.e3]
              refine wpAnyH_ready (rs := [0]) (by kernel_rfl) (by simp) ?_
              refine .cons (o := _) rfl (fun K hK => ?_) ?_
              · cases Rw3.row (HT.out.below HBR.out HT.out.lt)
                go_simp
                refine Rg.st_same hK hHeld (fun hHeld => ?_)
                clear hK K
                try simp only [Rg.e1, Rg.e2, Rg.e3]
                refine wpAnyH_ready (rs := [4]) (by kernel_rfl) (by simp) ?_
                refine .cons (o := _) rfl (fun K hK => ?_) ?_
                · go_simp
                  refine (set_any r u true Ap n cp wd HD.out (HP.out.below HBR.out)).mono ?_
                  rintro e wr14 ⟨A2, n2, c2, rfl, hS2, hbc⟩
                  have HU := Lib.hid hS2
                  have HBC := Lib.hid hbc
                  clear hbc hS2
                  go_wp2_with fail
                  refine Rg.st_same hK (hHeld.below HBC.out hHeld.lt) (fun hHeld => ?_)
                  clear hK K
                  have HBR := Lib.hid (HBR.out.trans (HBC.out.mono HBR.out.size))
                  clear HBC
                  try simp only [Rg.e1, Rg.e2, Rg.e3]
                  refine wpAnyH_ready (rs := [9]) (by kernel_rfl) (by simp) ?_
                  refine .cons (o := _) rfl (fun K hK => ?_) ?_
                  · go_simp
                    refine (rset_any r u true Ar n cr wr14 (HQ.out.below HBR.out)).mono ?_
                    rintro e wr15 ⟨A3, n3, c3, rfl, hS3, hbc⟩
                    have hnn : n3 = n2 := hS3.len.symm.trans HU.out.len
                    subst hnn
                    have HU2 := Lib.hid (HU.out.below hbc)
                    have HV2 := Lib.hid hS3
                    have HBC := Lib.hid hbc
                    clear hbc hS3
                    go_wp2_with fail
                    refine Rg.st_same hK (hHeld.below HBC.out hHeld.lt) (fun hHeld => ?_)
                    clear hK K
                    have HBR := Lib.hid (HBR.out.trans (HBC.out.mono HBR.out.size))
                    clear HBC HU
                    try simp only [Rg.e1, Rg.e2, Rg.e3]
                    refine wpAnyH_ready (rs := [10]) (by kernel_rfl) (by simp) ?_
                    refine .cons (o := _) rfl (fun K hK => ?_) ?_
                    · cases Rw3.row (HT.out.below HBR.out HT.out.lt)
                      go_simp
                      have hTx := HT.out.below HBR.out HT.out.lt
                      have hRx := HR.out.below HBR.out HR.out.lt
                      have hYx := HY.out.below HBR.out HY.out.lt
                      refine Rg.st_same hK (Rw3.far hHeld (by omega) _ _ _) (fun hHeld => ?_)
                      clear hK K
                      obtain ⟨wr16, hw9⟩ : ∃ wr16, wr16 = Rw3.set wr15 a (.int .i64 r) (.bool true) (.slice A2 n3 c2) := ⟨_, rfl⟩
                      have HTt : Hid (Blk wr16 a 25 (wrC r true A2 n3 c2)) := Lib.hid (by rw [hw9]; exact Rw3.blk_set hTx _ _ _)
                      have HRt : Hid (Blk wr16 (a + 1) 32 (wrC r (!u) Ar n cr)) := Lib.hid (by rw [hw9]; exact Rw3.far hRx (by omega) _ _ _)
                      have HYt : Hid (Blk wr16 y 25 (wrC r u Ap n cp)) := Lib.hid (by rw [hw9]; exact Rw3.far hYx (by omega) _ _ _)
                      have HUt : Hid (Sl wr16 A2 n3 c2 (setR true L)) := Lib.hid (by rw [hw9]; exact HU2.out.set3 hTx _ _ _)
                      have HVt : Hid (Sl wr16 A3 n3 c3 (setR true L)) := Lib.hid (by rw [hw9]; exact HV2.out.set3 hTx _ _ _)
                      have HWt : Hid (Below w.heap.size w wr16) := Lib.hid (by rw [hw9]; exact Rw3.below_set (HW.out.trans (HBR.out.mono HW.out.size)) L0 _ _ _)
                      dsimp only [Rw3.set] at hw9
                      rw [← hw9] at hHeld ⊢
                      clear hw9 hTx hRx hYx
                      try simp only [Rg.e1, Rg.e2, Rg.e3]
                      refine wpAnyH_ready (rs := [11]) (by kernel_rfl) (by simp) ?_
                      refine .cons (o := _) rfl (fun K hK => ?_) ?_
                      · cases Rw3.row HRt.out
                        go_simp
                        refine Rg.st_same hK (Rw3.far hHeld (by omega) _ _ _) (fun hHeld => ?_)
                        clear hK K
                        obtain ⟨wr17, hw9⟩ : ∃ wr17, wr17 = Rw3.set wr16 (a + 1) (.int .i64 r) (.bool false) (.slice A3 n3 c3) := ⟨_, rfl⟩
                        have HTu : Hid (Blk wr17 a 25 (wrC r true A2 n3 c2)) := Lib.hid (by rw [hw9]; exact Rw3.far HTt.out (by omega) _ _ _)
                        have HRu : Hid (Blk wr17 (a + 1) 32 (wrC r false A3 n3 c3)) := Lib.hid (by rw [hw9]; exact Rw3.blk_set HRt.out _ _ _)
                        have HYu : Hid (Blk wr17 y 25 (wrC r u Ap n cp)) := Lib.hid (by rw [hw9]; exact Rw3.far HYt.out (by omega) _ _ _)
                        have HUu : Hid (Sl wr17 A2 n3 c2 (setR true L)) := Lib.hid (by rw [hw9]; exact HUt.out.set3 HRt.out _ _ _)
                        have HVu : Hid (Sl wr17 A3 n3 c3 (setR true L)) := Lib.hid (by rw [hw9]; exact HVt.out.set3 HRt.out _ _ _)
                        have HWu : Hid (Below w.heap.size w wr17) := Lib.hid (by rw [hw9]; exact Rw3.below_set HWt.out (by omega) _ _ _)
                        dsimp only [Rw3.set] at hw9
                        rw [← hw9] at hHeld ⊢
                        clear hw9
                        try simp only [Rg.e1, Rg.e2, Rg.e3]
                        refine wpAnyH_done (by kernel_rfl) ?_ _
                        go_wp2_with fail
                        go_meet
                        exact ⟨true, A2, n3, c2, A3, c3, setR true L, setR_len true hlr r0, setR_down true L, HTu.out, HRu.out, HYu.out, HUu.out, HVu.out, HWu.out⟩
                      exact AllReadyH.nil
                    exact AllReadyH.nil
                  exact AllReadyH.nil
                exact AllReadyH.nil
              exact AllReadyH.nil
            exact AllReadyH.nil
          have e2 : ((kd : Int) == 2) = false := by simp only [beq_eq_false_iff_ne]; omega
          by_cases k3 : kd = 3
          · have e3 : ((kd : Int) == 3) = true := by simp [k3]
            clear k0 k1 k2 k3
            go_upto_region 28 with (fail)
            refine wp_region_held_drew (S := fun wx => Blk wx z 34 (wacC kd s)) (by kernel_rfl) HC.out.drew (fun hHeld => ?_)
            have HBR := Lib.hid ((Below.refl wc.heap.size wc).drew)
            generalize wc.drew = wd at hHeld HBR ⊢
            refine Rg.tk 1 (v := ?_) ?_ ?_
            rotate_left
            · (intro wx hSx; go_simp; all_goals with_reducible rfl)
            simp only [Act.put, Rg.e1, Rg.e2, Rg.e3, Rg.e4, Rg.e5, Rg.e6]
            refine Rg.tk 2 (v := ?_) ?_ ?_
            rotate_left
            · intro wx hSx
              cases Rw2.row hSx; go_simp
              all_goals with_reducible rfl
            simp only [Act.put, Rg.e1, Rg.e2, Rg.e3, Rg.e4, Rg.e5, Rg.e6]
            refine Rg.tk 3 (v := ?_) ?_ ?_
            rotate_left
            · (intro wx hSx; go_simp; all_goals with_reducible rfl)
            simp only [Act.put, Rg.e1, Rg.e2, Rg.e3, Rg.e4, Rg.e5, Rg.e6]
            refine Rg.tk 6 (v := ?_) ?_ ?_
            rotate_left
            · (intro wx hSx; go_simp; all_goals with_reducible rfl)
            simp only [Act.put, Rg.e1, Rg.e2, Rg.e3, Rg.e4, Rg.e5, Rg.e6]
            refine Rg.tk 7 (v := ?_) ?_ ?_
            rotate_left
            · intro wx hSx
              cases Rw2.row hSx; go_simp
              all_goals with_reducible rfl
            simp only [Act.put, Rg.e1, Rg.e2, Rg.e3, Rg.e4, Rg.e5, Rg.e6]
            refine Rg.tk 8 (v := ?_) ?_ ?_
            rotate_left
            · (intro wx hSx; go_simp; all_goals with_reducible rfl)
            simp only [Act.put, Rg.e1, Rg.e2, Rg.e3, Rg.e4, Rg.e5, Rg.e6]
            refine wpAnyH_ready (rs := [0, 5]) (by kernel_rfl) (by simp) ?_
            refine .cons (o := _) rfl (fun K hK => ?_) ?_
            · cases Rw3.row (HT.out.below HBR.out HT.out.lt)
              go_simp
              refine Rg.st_same hK hHeld (fun hHeld => ?_)
              clear hK K
              try simp only [Rg.e1, Rg.e2, Rg.e3]
              refine wpAnyH_ready (rs := [4, 5]) (by kernel_rfl) (by simp) ?_
              refine .cons (o := _) rfl (fun K hK => ?_) ?_
              · go_simp
                refine (set_any r u false Ap n cp wd HD.out (HP.out.below HBR.out)).mono ?_
                rintro e wr2 ⟨A2, n2, c2, rfl, hS2, hbc⟩
                have HU := Lib.hid hS2
                have HBC := Lib.hid hbc
                clear hbc hS2
                go_wp2_with fail
                refine Rg.st_same hK (hHeld.below HBC.out hHeld.lt) (fun hHeld => ?_)
                clear hK K
                have HBR := Lib.hid (HBR.out.trans (HBC.out.mono HBR.out.size))
                clear HBC
                try simp only [Rg.e1, Rg.e2, Rg.e3]
                refine wpAnyH_ready (rs := [5]) (by kernel_rfl) (by simp) ?_
                refine .cons (o := _) rfl (fun K hK => ?_) ?_
                · cases Rw3.row (HR.out.below HBR.out HR.out.lt)
                  go_simp
                  refine Rg.st_same hK hHeld (fun hHeld => ?_)
                  clear hK K
                  try simp only [Rg.e1, Rg.e2, Rg.e3]
                  refine wpAnyH_ready (rs := [9]) (by kernel_rfl) (by simp) ?_
                  refine .cons (o := _) rfl (fun K hK => ?_) ?_
                  · go_simp
                    refine (rset_any r u false Ar n cr wr2 (HQ.out.below HBR.out)).mono ?_
                    rintro e wr4 ⟨A3, n3, c3, rfl, hS3, hbc⟩
                    have hnn : n3 = n2 := hS3.len.symm.trans HU.out.len
                    subst hnn
                    have HU2 := Lib.hid (HU.out.below hbc)
                    have HV2 := Lib.hid hS3
                    have HBC := Lib.hid hbc
                    clear hbc hS3
                    go_wp2_with fail
                    refine Rg.st_same hK (hHeld.below HBC.out hHeld.lt) (fun hHeld => ?_)
                    clear hK K
                    have HBR := Lib.hid (HBR.out.trans (HBC.out.mono HBR.out.size))
                    clear HBC HU
                    try simp only [Rg.e1, Rg.e2, Rg.e3]
                    refine wpAnyH_ready (rs := [10]) (by kernel_rfl) (by simp) ?_
                    refine .cons (o := _) rfl (fun K hK => ?_) ?_
                    · cases Rw3.row (HT.out.below HBR.out HT.out.lt)
                      go_simp
                      have hTx := HT.out.below HBR.out HT.out.lt
                      have hRx := HR.out.below HBR.out HR.out.lt
                      have hYx := HY.out.below HBR.out HY.out.lt
                      refine Rg.st_same hK (Rw3.far hHeld (by omega) _ _ _) (fun hHeld => ?_)
                      clear hK K
                      obtain ⟨wr5, hw9⟩ : ∃ wr5, wr5 = Rw3.set wr4 a (.int .i64 r) (.bool false) (.slice A2 n3 c2) := ⟨_, rfl⟩
                      have HTt : Hid (Blk wr5 a 25 (wrC r false A2 n3 c2)) := Lib.hid (by rw [hw9]; exact Rw3.blk_set hTx _ _ _)
                      have HRt : Hid (Blk wr5 (a + 1) 32 (wrC r (!u) Ar n cr)) := Lib.hid (by rw [hw9]; exact Rw3.far hRx (by omega) _ _ _)
                      have HYt : Hid (Blk wr5 y 25 (wrC r u Ap n cp)) := Lib.hid (by rw [hw9]; exact Rw3.far hYx (by omega) _ _ _)
                      have HUt : Hid (Sl wr5 A2 n3 c2 (setR false L)) := Lib.hid (by rw [hw9]; exact HU2.out.set3 hTx _ _ _)
                      have HVt : Hid (Sl wr5 A3 n3 c3 (setR false L)) := Lib.hid (by rw [hw9]; exact HV2.out.set3 hTx _ _ _)
                      have HWt : Hid (Below w.heap.size w wr5) := Lib.hid (by rw [hw9]; exact Rw3.below_set (HW.out.trans (HBR.out.mono HW.out.size)) L0 _ _ _)
                      dsimp only [Rw3.set] at hw9
                      rw [← hw9] at hHeld ⊢
                      clear hw9 hTx hRx hYx
                      try simp only [Rg.e1, Rg.e2, Rg.e3]
                      refine wpAnyH_ready (rs := [11]) (by kernel_rfl) (by simp) ?_
                      refine .cons (o := _) rfl (fun K hK => ?_) ?_
                      · cases Rw3.row HRt.out
                        go_simp
                        refine Rg.st_same hK (Rw3.far hHeld (by omega) _ _ _) (fun hHeld => ?_)
                        clear hK K
                        obtain ⟨wr6, hw9⟩ : ∃ wr6, wr6 = Rw3.set wr5 (a + 1) (.int .i64 r) (.bool true) (.slice A3 n3 c3) := ⟨_, rfl⟩
                        have HTu : Hid (Blk wr6 a 25 (wrC r false A2 n3 c2)) := Lib.hid (by rw [hw9]; exact Rw3.far HTt.out (by omega) _ _ _)
                        have HRu : Hid (Blk wr6 (a + 1) 32 (wrC r true A3 n3 c3)) := Lib.hid (by rw [hw9]; exact Rw3.blk_set HRt.out _ _ _)
                        have HYu : Hid (Blk wr6 y 25 (wrC r u Ap n cp)) := Lib.hid (by rw [hw9]; exact Rw3.far HYt.out (by omega) _ _ _)
                        have HUu : Hid (Sl wr6 A2 n3 c2 (setR false L)) := Lib.hid (by rw [hw9]; exact HUt.out.set3 HRt.out _ _ _)
                        have HVu : Hid (Sl wr6 A3 n3 c3 (setR false L)) := Lib.hid (by rw [hw9]; exact HVt.out.set3 HRt.out _ _ _)
                        have HWu : Hid (Below w.heap.size w wr6) := Lib.hid (by rw [hw9]; exact Rw3.below_set HWt.out (by omega) _ _ _)
                        dsimp only [Rw3.set] at hw9
                        rw [← hw9] at hHeld ⊢
                        clear hw9
                        try simp only [Rg.e1, Rg.e2, Rg.e3]
                        refine wpAnyH_done (by kernel_rfl) ?_ _
                        go_wp2_with fail
                        go_meet
                        exact ⟨false, A2, n3, c2, A3, c3, setR false L, setR_len false hlr r0, setR_down false L, HTu.out, HRu.out, HYu.out, HUu.out, HVu.out, HWu.out⟩
                      exact AllReadyH.nil
                    exact AllReadyH.nil
                  exact AllReadyH.nil
                exact AllReadyH.nil
              refine .cons (o := _) rfl (fun K hK => ?_) ?_
              · cases Rw3.row (HR.out.below HBR.out HR.out.lt)
                go_simp
                refine Rg.st_same hK hHeld (fun hHeld => ?_)
                clear hK K
                try simp only [Rg.e1, Rg.e2, Rg.e3]
                refine wpAnyH_ready (rs := [4]) (by kernel_rfl) (by simp) ?_
                refine .cons (o := _) rfl (fun K hK => ?_) ?_
                · go_simp
                  refine (set_any r u false Ap n cp wd HD.out (HP.out.below HBR.out)).mono ?_
                  rintro e wr8 ⟨A2, n2, c2, rfl, hS2, hbc⟩
                  have HU := Lib.hid hS2
                  have HBC := Lib.hid hbc
                  clear hbc hS2
                  go_wp2_with fail
                  refine Rg.st_same hK (hHeld.below HBC.out hHeld.lt) (fun hHeld => ?_)
                  clear hK K
                  have HBR := Lib.hid (HBR.out.trans (HBC.out.mono HBR.out.size))
                  clear HBC
                  try simp only [Rg.e1, Rg.e2, Rg.e3]
                  refine wpAnyH_ready (rs := [9]) (by kernel_rfl) (by simp) ?_
                  refine .cons (o := _) rfl (fun K hK => ?_) ?_
                  · go_simp
                    refine (rset_any r u false Ar n cr wr8 (HQ.out.below HBR.out)).mono ?_
                    rintro e wr9 ⟨A3, n3, c3, rfl, hS3, hbc⟩
                    have hnn : n3 = n2 := hS3.len.symm.trans HU.out.len
                    subst hnn
                    have HU2 := Lib.hid (HU.out.below hbc)
                    have HV2 := Lib.hid hS3
                    have HBC := Lib.hid hbc
                    clear hbc hS3
                    go_wp2_with fail
                    refine Rg.st_same hK (hHeld.below HBC.out hHeld.lt) (fun hHeld => ?_)
                    clear hK K
                    have HBR := Lib.hid (HBR.out.trans (HBC.out.mono HBR.out.size))
                    clear HBC HU
                    try simp only [Rg.e1, Rg.e2, Rg.e3]
                    refine wpAnyH_ready (rs := [10]) (by kernel_rfl) (by simp) ?_
                    refine .cons (o := _) rfl (fun K hK => ?_) ?_
                    · cases Rw3.row (HT.out.below HBR.out HT.out.lt)
                      go_simp
                      have hTx := HT.out.below HBR.out HT.out.lt
                      have hRx := HR.out.below HBR.out HR.out.lt
                      have hYx := HY.out.below HBR.out HY.out.lt
                      refine Rg.st_same hK (Rw3.far hHeld (by omega) _ _ _) (fun hHeld => ?_)
                      clear hK K
                      obtain ⟨wr10, hw9⟩ : ∃ wr10, wr10 = Rw3.set wr9 a (.int .i64 r) (.bool false) (.slice A2 n3 c2) := ⟨_, rfl⟩
                      have HTt : Hid (Blk wr10 a 25 (wrC r false A2 n3 c2)) := Lib.hid (by rw [hw9]; exact Rw3.blk_set hTx _ _ _)
                      have HRt : Hid (Blk wr10 (a + 1) 32 (wrC r (!u) Ar n cr)) := Lib.hid (by rw [hw9]; exact Rw3.far hRx (by omega) _ _ _)
                      have HYt : Hid (Blk wr10 y 25 (wrC r u Ap n cp)) := Lib.hid (by rw [hw9]; exact Rw3.far hYx (by omega) _ _ _)
                      have HUt : Hid (Sl wr10 A2 n3 c2 (setR false L)) := Lib.hid (by rw [hw9]; exact HU2.out.set3 hTx _ _ _)
                      have HVt : Hid (Sl wr10 A3 n3 c3 (setR false L)) := Lib.hid (by rw [hw9]; exact HV2.out.set3 hTx _ _ _)
                      have HWt : Hid (Below w.heap.size w wr10) := Lib.hid (by rw [hw9]; exact Rw3.below_set (HW.out.trans (HBR.out.mono HW.out.size)) L0 _ _ _)
                      dsimp only [Rw3.set] at hw9
                      rw [← hw9] at hHeld ⊢
                      clear hw9 hTx hRx hYx
                      try simp only [Rg.e1, Rg.e2, Rg.e3]
                      refine wpAnyH_ready (rs := [11]) (by kernel_rfl) (by simp) ?_
                      refine .cons (o := _) rfl (fun K hK => ?_) ?_
                      · cases Rw3.row HRt.out
                        go_simp
                        refine Rg.st_same hK (Rw3.far hHeld (by omega) _ _ _) (fun hHeld => ?_)
                        clear hK K
                        obtain ⟨wr11, hw9⟩ : ∃ wr11, wr11 = Rw3.set wr10 (a + 1) (.int .i64 r) (.bool true) (.slice A3 n3 c3) := ⟨_, rfl⟩
                        have HTu : Hid (Blk wr11 a 25 (wrC r false A2 n3 c2)) := Lib.hid (by rw [hw9]; exact Rw3.far HTt.out (by omega) _ _ _)
                        have HRu : Hid (Blk wr11 (a + 1) 32 (wrC r true A3 n3 c3)) := Lib.hid (by rw [hw9]; exact Rw3.blk_set HRt.out _ _ _)
                        have HYu : Hid (Blk wr11 y 25 (wrC r u Ap n cp)) := Lib.hid (by rw [hw9]; exact Rw3.far HYt.out (by omega) _ _ _)
                        have HUu : Hid (Sl wr11 A2 n3 c2 (setR false L)) := Lib.hid (by rw [hw9]; exact HUt.out.set3 HRt.out _ _ _)
                        have HVu : Hid (Sl wr11 A3 n3 c3 (setR false L)) := Lib.hid (by rw [hw9]; exact HVt.out.set3 HRt.out _ _ _)
                        have HWu : Hid (Below w.heap.size w wr11) := Lib.hid (by rw [hw9]; exact Rw3.below_set HWt.out (by omega) _ _ _)
                        dsimp only [Rw3.set] at hw9
                        rw [← hw9] at hHeld ⊢
                        clear hw9
                        try simp only [Rg.e1, Rg.e2, Rg.e3]
                        refine wpAnyH_done (by kernel_rfl) ?_ _
                        go_wp2_with fail
                        go_meet
                        exact ⟨false, A2, n3, c2, A3, c3, setR false L, setR_len false hlr r0, setR_down false L, HTu.out, HRu.out, HYu.out, HUu.out, HVu.out, HWu.out⟩
                      exact AllReadyH.nil
                    exact AllReadyH.nil
                  exact AllReadyH.nil
                exact AllReadyH.nil
              exact AllReadyH.nil
            refine .cons (o := _) rfl (fun K hK => ?_) ?_
            · cases Rw3.row (HR.out.below HBR.out HR.out.lt)
              go_simp
              refine Rg.st_same hK hHeld (fun hHeld => ?_)
              clear hK K
              try simp only [Rg.e1, Rg.e2, Rg.e3]
              refine wpAnyH_ready (rs := [0]) (by kernel_rfl) (by simp) ?_
              refine .cons (o := _) rfl (fun K hK => ?_) ?_
              · cases Rw3.row (HT.out.below HBR.out HT.out.lt)
                go_simp
                refine Rg.st_same hK hHeld (fun hHeld => ?_)
                clear hK K
                try simp only [Rg.e1, Rg.e2, Rg.e3]
                refine wpAnyH_ready (rs := [4]) (by kernel_rfl) (by simp) ?_
                refine .cons (o := _) rfl (fun K hK => ?_) ?_
                · go_simp
                  refine (set_any r u false Ap n cp wd HD.out (HP.out.below HBR.out)).mono ?_
                  rintro e wr14 ⟨A2, n2, c2, rfl, hS2, hbc⟩
                  have HU := Lib.hid hS2
                  have HBC := Lib.hid hbc
                  clear hbc hS2
                  go_wp2_with fail
                  refine Rg.st_same hK (hHeld.below HBC.out hHeld.lt) (fun hHeld => ?_)
                  clear hK K
                  have HBR := Lib.hid (HBR.out.trans (HBC.out.mono HBR.out.size))
                  clear HBC
                  try simp only [Rg.e1, Rg.e2, Rg.e3]
                  refine wpAnyH_ready (rs := [9]) (by kernel_rfl) (by simp) ?_
                  refine .cons (o := _) rfl (fun K hK => ?_) ?_
                  · go_simp
                    refine (rset_any r u false Ar n cr wr14 (HQ.out.below HBR.out)).mono ?_
                    rintro e wr15 ⟨A3, n3, c3, rfl, hS3, hbc⟩
                    have hnn : n3 = n2 := hS3.len.symm.trans HU.out.len
                    subst hnn
                    have HU2 := Lib.hid (HU.out.below hbc)
                    have HV2 := Lib.hid hS3
                    have HBC := Lib.hid hbc
                    clear hbc hS3
                    go_wp2_with fail
                    refine Rg.st_same hK (hHeld.below HBC.out hHeld.lt) (fun hHeld => ?_)
                    clear hK K
                    have HBR := Lib.hid (HBR.out.trans (HBC.out.mono HBR.out.size))
                    clear HBC HU
                    try simp only [Rg.e1, Rg.e2, Rg.e3]
                    refine wpAnyH_ready (rs := [10]) (by kernel_rfl) (by simp) ?_
                    refine .cons (o := _) rfl (fun K hK => ?_) ?_
                    · cases Rw3.row (HT.out.below HBR.out HT.out.lt)
                      go_simp
                      have hTx := HT.out.below HBR.out HT.out.lt
                      have hRx := HR.out.below HBR.out HR.out.lt
                      have hYx := HY.out.below HBR.out HY.out.lt
                      refine Rg.st_same hK (Rw3.far hHeld (by omega) _ _ _) (fun hHeld => ?_)
                      clear hK K
                      obtain ⟨wr16, hw9⟩ : ∃ wr16, wr16 = Rw3.set wr15 a (.int .i64 r) (.bool false) (.slice A2 n3 c2) := ⟨_, rfl⟩
                      have HTt : Hid (Blk wr16 a 25 (wrC r false A2 n3 c2)) := Lib.hid (by rw [hw9]; exact Rw3.blk_set hTx _ _ _)
                      have HRt : Hid (Blk wr16 (a + 1) 32 (wrC r (!u) Ar n cr)) := Lib.hid (by rw [hw9]; exact Rw3.far hRx (by omega) _ _ _)
                      have HYt : Hid (Blk wr16 y 25 (wrC r u Ap n cp)) := Lib.hid (by rw [hw9]; exact Rw3.far hYx (by omega) _ _ _)
                      have HUt : Hid (Sl wr16 A2 n3 c2 (setR false L)) := Lib.hid (by rw [hw9]; exact HU2.out.set3 hTx _ _ _)
                      have HVt : Hid (Sl wr16 A3 n3 c3 (setR false L)) := Lib.hid (by rw [hw9]; exact HV2.out.set3 hTx _ _ _)
                      have HWt : Hid (Below w.heap.size w wr16) := Lib.hid (by rw [hw9]; exact Rw3.below_set (HW.out.trans (HBR.out.mono HW.out.size)) L0 _ _ _)
                      dsimp only [Rw3.set] at hw9
                      rw [← hw9] at hHeld ⊢
                      clear hw9 hTx hRx hYx
                      try simp only [Rg.e1, Rg.e2, Rg.e3]
                      refine wpAnyH_ready (rs := [11]) (by kernel_rfl) (by simp) ?_
                      refine .cons (o := _) rfl (fun K hK => ?_) ?_
                      · cases Rw3.row HRt.out
                        go_simp
                        refine Rg.st_same hK (Rw3.far hHeld (by omega) _ _ _) (fun hHeld => ?_)
                        clear hK K
                        obtain ⟨wr17, hw9⟩ : ∃ wr17, wr17 = Rw3.set wr16 (a + 1) (.int .i64 r) (.bool true) (.slice A3 n3 c3) := ⟨_, rfl⟩
                        have HTu : Hid (Blk wr17 a 25 (wrC r false A2 n3 c2)) := Lib.hid (by rw [hw9]; exact Rw3.far HTt.out (by omega) _ _ _)
                        have HRu : Hid (Blk wr17 (a + 1) 32 (wrC r true A3 n3 c3)) := Lib.hid (by rw [hw9]; exact Rw3.blk_set HRt.out _ _ _)
                        have HYu : Hid (Blk wr17 y 25 (wrC r u Ap n cp)) := Lib.hid (by rw [hw9]; exact Rw3.far HYt.out (by omega) _ _ _)
                        have HUu : Hid (Sl wr17 A2 n3 c2 (setR false L)) := Lib.hid (by rw [hw9]; exact HUt.out.set3 HRt.out _ _ _)
                        have HVu : Hid (Sl wr17 A3 n3 c3 (setR false L)) := Lib.hid (by rw [hw9]; exact HVt.out.set3 HRt.out _ _ _)
                        have HWu : Hid (Below w.heap.size w wr17) := Lib.hid (by rw [hw9]; exact Rw3.below_set HWt.out (by omega) _ _ _)
                        dsimp only [Rw3.set] at hw9
                        rw [← hw9] at hHeld ⊢
                        clear hw9
                        try simp only [Rg.e1, Rg.e2, Rg.e3]
                        refine wpAnyH_done (by kernel_rfl) ?_ _
                        go_wp2_with fail
                        go_meet
                        exact ⟨false, A2, n3, c2, A3, c3, setR false L, setR_len false hlr r0, setR_down false L, HTu.out, HRu.out, HYu.out, HUu.out, HVu.out, HWu.out⟩
                      exact AllReadyH.nil
                    exact AllReadyH.nil
                  exact AllReadyH.nil
                exact AllReadyH.nil
              exact AllReadyH.nil
            exact AllReadyH.nil
          have e3 : ((kd : Int) == 3) = false := by simp only [beq_eq_false_iff_ne]; omega
          clear k0 k1 k2 k3
          go_wp2_with fail
          go_meet
          exact ⟨u, Ap, n, cp, Ar, cr, L, hlr, HD.out, HT.out, HR.out, HY.out, HP.out, HQ.out, HW.out⟩
        case rest =>
          obtain ⟨u', A', n', c', R', C', L', hlr', hdn', hT, hR, hY, hP, hQ, hW⟩ := hcut
          clear HT HR HY HP HQ HW HC HD
          have HT := Lib.hid hT; have HR := Lib.hid hR; have HY := Lib.hid hY; have HP := Lib.hid hP; have HQ := Lib.hid hQ; have HW := Lib.hid hW; have HD := Lib.hid hdn'
          clear hT hR hY hP hQ hW hdn'
          have f1 : ((n' : Int) != (n' : Int)) = false := by simp
          have f2 : (u' == !u') = false := by cases u' <;> rfl
          have f3 : ((n : Int) != (n : Int)) = false := by simp
          go_upto_region 29 with (fail)
          refine wp_region_held_drew (S := fun wx => Blk wx a 25 (wrC r u' A' n' c') ∧ Blk wx (a + 1) 32 (wrC r (!u') R' n' C') ∧ Blk wx y 25 (wrC r u Ap n cp)) (by kernel_rfl) ⟨HT.out.drew, HR.out.drew, HY.out.drew⟩ (fun hHeld => ?_)
          have HBR := Lib.hid ((Below.refl wc.heap.size wc).drew)
          have KS := Lib.hid ((Rg.Keeps.one a 25 (wrC r u' A' n' c')).and ((Rg.Keeps.one (a + 1) 32 (wrC r (!u') R' n' C')).and (Rg.Keeps.one y 25 (wrC r u Ap n cp))))
          generalize wc.drew = wd at hHeld HBR ⊢
          refine Rg.tk 0 (v := ?_) ?_ ?_
          rotate_left
          · intro wx hSx
            cases Rw3.row hSx.1; cases Rw3.row hSx.2.1; cases Rw3.row hSx.2.2; go_simp
            all_goals with_reducible rfl
          simp only [Act.put, Rg.e1, Rg.e2, Rg.e3, Rg.e4, Rg.e5, Rg.e6]
          refine Rg.tk 2 (v := ?_) ?_ ?_
          rotate_left
          · (intro wx hSx; go_simp; all_goals with_reducible rfl)
          simp only [Act.put, Rg.e1, Rg.e2, Rg.e3, Rg.e4, Rg.e5, Rg.e6]
          refine Rg.tk 3 (v := ?_) ?_ ?_
          rotate_left
          · intro wx hSx
            cases Rw3.row hSx.1; cases Rw3.row hSx.2.1; cases Rw3.row hSx.2.2; go_simp
            all_goals with_reducible rfl
          simp only [Act.put, Rg.e1, Rg.e2, Rg.e3, Rg.e4, Rg.e5, Rg.e6]
          refine Rg.tk 4 (v := ?_) ?_ ?_
          rotate_left
          · (intro wx hSx; go_simp; all_goals with_reducible rfl)
          simp only [Act.put, Rg.e1, Rg.e2, Rg.e3, Rg.e4, Rg.e5, Rg.e6]
          refine wpAnyH_ready (rs := [1]) (by kernel_rfl) (by simp) ?_
          refine .cons (o := _) rfl (fun K hK => ?_) ?_
          · go_simp
            refine (len_any r u' A' n' c' wd).mono ?_
            rintro e wr1 ⟨rfl, hbc⟩
            go_wp2_with fail
            refine Rg.st_call hK hHeld KS.out HBR.out hbc ?_
            clear hK K
            intro hHeld hbr
            have HBR := Lib.hid hbr
            clear hbr hbc
            try simp only [Rg.e1, Rg.e2, Rg.e3]
            refine Rg.tk 5 (v := ?_) ?_ ?_
            rotate_left
            · (intro wx hSx; go_simp; all_goals with_reducible rfl)
            simp only [Act.put, Rg.e1, Rg.e2, Rg.e3, Rg.e4, Rg.e5, Rg.e6]
            refine Rg.tk 6 (v := ?_) ?_ ?_
            rotate_left
            · (intro wx hSx; go_simp; all_goals with_reducible rfl)
            simp only [Act.put, Rg.e1, Rg.e2, Rg.e3, Rg.e4, Rg.e5, Rg.e6]
            refine Rg.tk 7 (v := ?_) ?_ ?_
            rotate_left
            · intro wx hSx
              cases Rw3.row hSx.1; cases Rw3.row hSx.2.1; cases Rw3.row hSx.2.2; go_simp
              all_goals with_reducible rfl
            simp only [Act.put, Rg.e1, Rg.e2, Rg.e3, Rg.e4, Rg.e5, Rg.e6]
            refine Rg.tk 9 (v := ?_) ?_ ?_
            rotate_left
            · (intro wx hSx; go_simp; all_goals with_reducible rfl)
            simp only [Act.put, Rg.e1, Rg.e2, Rg.e3, Rg.e4, Rg.e5, Rg.e6]
            refine Rg.tk 10 (v := ?_) ?_ ?_
            rotate_left
            · intro wx hSx
              cases Rw3.row hSx.1; cases Rw3.row hSx.2.1; cases Rw3.row hSx.2.2; go_simp
              all_goals with_reducible rfl
            simp only [Act.put, Rg.e1, Rg.e2, Rg.e3, Rg.e4, Rg.e5, Rg.e6]
            refine wpAnyH_ready (rs := [8]) (by kernel_rfl) (by simp) ?_
            refine .cons (o := _) rfl (fun K hK => ?_) ?_
            · go_simp
              refine (up_any r u' A' n' c' wr1).mono ?_
              rintro e wr2 ⟨rfl, hbc⟩
              go_wp2_with fail
              refine Rg.st_call hK hHeld KS.out HBR.out hbc ?_
              clear hK K
              intro hHeld hbr
              have HBR := Lib.hid hbr
              clear hbr hbc
              try simp only [Rg.e1, Rg.e2, Rg.e3]
              refine Rg.tk 11 (v := ?_) ?_ ?_
              rotate_left
              · (intro wx hSx; go_simp; all_goals with_reducible rfl)
              simp only [Act.put, Rg.e1, Rg.e2, Rg.e3, Rg.e4, Rg.e5, Rg.e6]
              refine Rg.tk 12 (v := ?_) ?_ ?_
              rotate_left
              · (intro wx hSx; go_simp; all_goals with_reducible rfl)
              simp only [Act.put, Rg.e1, Rg.e2, Rg.e3, Rg.e4, Rg.e5, Rg.e6]
              refine Rg.tk 13 (v := ?_) ?_ ?_
              rotate_left
              · (intro wx hSx; go_simp; all_goals with_reducible rfl)
              simp only [Act.put, Rg.e1, Rg.e2, Rg.e3, Rg.e4, Rg.e5, Rg.e6]
              refine Rg.tk 14 (v := ?_) ?_ ?_
              rotate_left
              · intro wx hSx
                cases Rw3.row hSx.1; cases Rw3.row hSx.2.1; cases Rw3.row hSx.2.2; go_simp
                all_goals with_reducible rfl
              simp only [Act.put, Rg.e1, Rg.e2, Rg.e3, Rg.e4, Rg.e5, Rg.e6]
              refine Rg.tk 16 (v := ?_) ?_ ?_
              rotate_left
              · (intro wx hSx; go_simp; all_goals with_reducible rfl)
              simp only [Act.put, Rg.e1, Rg.e2, Rg.e3, Rg.e4, Rg.e5, Rg.e6]
              refine wpAnyH_ready (rs := [15]) (by kernel_rfl) (by simp) ?_
              refine .cons (o := _) rfl (fun K hK => ?_) ?_
              · go_simp
                refine (len_any r u Ap n cp wr2).mono ?_
                rintro e wr3 ⟨rfl, hbc⟩
                go_wp2_with fail
                refine Rg.st_call hK hHeld KS.out HBR.out hbc ?_
                clear hK K
                intro hHeld hbr
                have HBR := Lib.hid hbr
                clear hbr hbc
                try simp only [Rg.e1, Rg.e2, Rg.e3]
                refine Rg.tk 17 (v := ?_) ?_ ?_
                rotate_left
                · (intro wx hSx; go_simp; all_goals with_reducible rfl)
                simp only [Act.put, Rg.e1, Rg.e2, Rg.e3, Rg.e4, Rg.e5, Rg.e6]
                refine Rg.tk 18 (v := ?_) ?_ ?_
                rotate_left
                · (intro wx hSx; go_simp; all_goals with_reducible rfl)
                simp only [Act.put, Rg.e1, Rg.e2, Rg.e3, Rg.e4, Rg.e5, Rg.e6]
                refine wpAnyH_done (by kernel_rfl) ?_ _
                go_wp2
                go_roundw
                case rel => exact ⟨k + 1, u', A', n', c', R', C', L', by omega, by go_num, hlr', HD.out, hHeld.1, hHeld.2.1, HP.out.below HBR.out, HQ.out.below HBR.out, HW.out.trans (HBR.out.mono HW.out.size)⟩
                case measure => simp [intOf]; omega
              exact AllReadyH.nil
            exact AllReadyH.nil
          exact AllReadyH.nil
    · have hek : ps.length = k := by omega
      have hd : decide ((k : Int) < (ps.length : Int)) = false := decide_eq_false (by omega)
      have hn : L.length = n := HP.out.len
      obtain ⟨N, hN⟩ : ∃ N, N = n + 1 := ⟨_, rfl⟩
      have hwr : IntKind.i64.wrap ((n : Int) + 1) = (N : Int) := by rw [IntKind.wrap_i64]; omega
      have hn7 : N ≤ 300 := by omega
      clear hek hN
      cases Rw3.row HR.out
      go_wp2_with fail
      go_loopw [161] (fun i wx => ∃ (j : Nat) (Ap : Option Addr) (n cp : Nat) (Ar : Option Addr) (cr : Nat) (L : List ByteArray), j ≤ N ∧ i = .int .i64 j ∧ L.length ≤ 256 ∧ Blk wx a 25 (wrC r u Ap n cp) ∧ Blk wx (a + 1) 32 (wrC r (!u) Ar n cr) ∧ Sl wx Ap n cp L ∧ Sl wx Ar n cr L ∧ Below w.heap.size w wx) (fun i _ => N - (intOf i).toNat)
      case atStart => exact ⟨0, Ap, n, cp, Ar, cr, L, Nat.zero_le _, rfl, by omega, HT.out, HR.out, HP.out, HQ.out, HW.out⟩
      case round =>
        obtain ⟨j, Ap, n, cp, Ar, cr, L, hj, rfl, hl6, hT, hR, hSp, hSr, hW⟩ := hrel
        clear HT HR HW HP HQ HD hn hn6 hwr hd hlr
        have HT := Lib.hid hT; have HR := Lib.hid hR; have HP := Lib.hid hSp; have HQ := Lib.hid hSr; have HW := Lib.hid hW
        clear hT hR hSp hSr hW
        have hn6 : n ≤ 1000000 := by have := HP.out.len; omega
        by_cases hlt : j < N
        · obtain ⟨⟨L', s1, ok⟩, hp⟩ : ∃ x, popR L = x := ⟨_, rfl⟩
          have hl' : L'.length ≤ 256 := by have := (popR_len hp).1; omega
          have HPU := Lib.hid hp; clear hp
          cases Rw3.row HT.out
          go_wp2_with fail
          refine (pop_any r u Ap n cp wr HPU.out HP.out hn6).mono ?_
          rintro e w5 ⟨A2, n2, c2, rfl, hS, hb⟩
          have HT5 := Lib.hid (HT.out.below hb HT.out.lt)
          have HR5 := Lib.hid (HR.out.below hb HR.out.lt)
          have HQ5 := Lib.hid (HQ.out.below hb)
          have HU5 := Lib.hid hS
          have HW5 := Lib.hid (HW.out.trans (hb.mono HW.out.size))
          clear hb hS HT HR HQ HP HW
          go_upto_region 35 with (fail)
          obtain ⟨w6, hw, b1, b2, b5, q1, q2, l⟩ : ∃ w6 : World, w6 = w5.alloc (.cells (wrC r u A2 n2 c2) 25) ∧ Blk w6 a 25 (wrC r u Ap n cp) ∧ Blk w6 (a + 1) 32 (wrC r (!u) Ar n cr) ∧ Blk w6 w5.heap.size 25 (wrC r u A2 n2 c2) ∧ Sl w6 Ar n cr L ∧ Sl w6 A2 n2 c2 L' ∧ Below w.heap.size w w6 := ⟨_, rfl, HT5.out.alloc _, HR5.out.alloc _, Blk.fresh _ _ _, HQ5.out.below ((Below.refl _ _).alloc (Nat.le_refl _) _), HU5.out.below ((Below.refl _ _).alloc (Nat.le_refl _) _), HW5.out.alloc HW5.out.size _⟩
          rw [← hw]
          have LU : a + 1 < w5.heap.size := HR5.out.lt
          generalize w5.heap.size = v1 at b5 LU ⊢
          have HT := Lib.hid b1; have HR := Lib.hid b2; have HX := Lib.hid b5; have HQ := Lib.hid q1; have HU := Lib.hid q2; have HW := Lib.hid l
          clear hw b1 b2 b5 q1 q2 l HT5 HR5 HQ5 HU5 HW5
          cases Rw3.row HR.out
          go_wp2_with fail
          refine (rpop_any r (!u) Ar n cr w6 HPU.out HQ.out hn6).mono ?_
          rintro e w7 ⟨A3, n3, c3, rfl, hS, hb⟩
          have hnn : n3 = n2 := hS.len.symm.trans HU.out.len
          subst hnn
          have HT7 := Lib.hid (HT.out.below hb HT.out.lt)
          have HR7 := Lib.hid (HR.out.below hb HR.out.lt)
          have HX7 := Lib.hid (HX.out.below hb HX.out.lt)
          have HU7 := Lib.hid (HU.out.below hb)
          have HV7 := Lib.hid hS
          have HW7 := Lib.hid (HW.out.trans (hb.mono HW.out.size))
          clear hb hS HT HR HX HQ HU HW
          go_upto_region 36 with (fail)
          obtain ⟨w8, hw, b1, b2, b5, b6, q1, q2, l⟩ : ∃ w8 : World, w8 = w7.alloc (.cells (wrC r (!u) A3 n3 c3) 32) ∧ Blk w8 a 25 (wrC r u Ap n cp) ∧ Blk w8 (a + 1) 32 (wrC r (!u) Ar n cr) ∧ Blk w8 v1 25 (wrC r u A2 n3 c2) ∧ Blk w8 w7.heap.size 32 (wrC r (!u) A3 n3 c3) ∧ Sl w8 A2 n3 c2 L' ∧ Sl w8 A3 n3 c3 L' ∧ Below w.heap.size w w8 := ⟨_, rfl, HT7.out.alloc _, HR7.out.alloc _, HX7.out.alloc _, Blk.fresh _ _ _, HU7.out.below ((Below.refl _ _).alloc (Nat.le_refl _) _), HV7.out.below ((Below.refl _ _).alloc (Nat.le_refl _) _), HW7.out.alloc HW7.out.size _⟩
          rw [← hw]
          have LV : v1 < w7.heap.size := HX7.out.lt
          generalize w7.heap.size = v2 at b6 LV ⊢
          have HT := Lib.hid b1; have HR := Lib.hid b2; have HX := Lib.hid b5; have HZ := Lib.hid b6; have HU := Lib.hid q1; have HV := Lib.hid q2; have HW := Lib.hid l
          clear hw b1 b2 b5 b6 q1 q2 l HT7 HR7 HX7 HU7 HV7 HW7
          cases Rw3.row HT.out
          cases Rw3.row HR.out
          cases Rw3.row HX.out
          cases Rw3.row HZ.out
          go_region
          obtain ⟨w9, hw, b1, b2, q1, q2, l⟩ : ∃ w9 : World, w9 = (Rw3.set (Rw3.set w8 a (.int .i64 r) (.bool u) (.slice A2 n3 c2)) (a + 1) (.int .i64 r) (.bool (!u)) (.slice A3 n3 c3)).drew ∧ Blk w9 a 25 (wrC r u A2 n3 c2) ∧ Blk w9 (a + 1) 32 (wrC r (!u) A3 n3 c3) ∧ Sl w9 A2 n3 c2 L' ∧ Sl w9 A3 n3 c3 L' ∧ Below w.heap.size w w9 :=
            ⟨_, rfl, (Rw3.far (Rw3.blk_set HT.out _ _ _) (by omega) _ _ _).drew, (Rw3.blk_set (Rw3.far HR.out (by omega) _ _ _) _ _ _).drew, ((HU.out.set3 HT.out _ _ _).set3 (Rw3.far HR.out (by omega) _ _ _) _ _ _).drew, ((HV.out.set3 HT.out _ _ _).set3 (Rw3.far HR.out (by omega) _ _ _) _ _ _).drew, (Rw3.below_set (Rw3.below_set HW.out L0 _ _ _) (by omega) _ _ _).drew⟩
          dsimp only [Rw3.set] at hw
          rw [← hw]
          have HT9 := Lib.hid b1; have HR9 := Lib.hid b2; have HP9 := Lib.hid q1; have HQ9 := Lib.hid q2; have HW9 := Lib.hid l
          clear hw b1 b2 q1 q2 l HT HR HX HZ HU HV HW
          have f1 : (ok != ok) = false := by simp
          have f2 : (s1.toList != s1.toList) = false := by simp
          go_wp2
          go_roundw
          case rel => exact ⟨j + 1, A2, n3, c2, A3, c3, L', by omega, by go_num, hl', HT9.out, HR9.out, HP9.out, HQ9.out, HW9.out⟩
          case measure => simp [intOf]; omega
        · have hej : N = j := by omega
          have hd : decide ((j : Int) < (N : Int)) = false := decide_eq_false (by omega)
          clear hej
          go_wp2_with fail
          refine (awake21 wr).mono ?_
          rintro e w5 ⟨rfl, hb⟩
          have HW5 := Lib.hid (HW.out.trans (hb.mono HW.out.size)); clear hb
          go_wp2
          go_ret
          exact ⟨rfl, HW5.out⟩
end Go.Proofs.Ytaolhjmmgippmaa.Wr
