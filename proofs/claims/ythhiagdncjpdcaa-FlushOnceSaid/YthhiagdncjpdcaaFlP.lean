/-
  The statements FlushHears and FlushOnce: their walks.
-/
import Derived.Test.YthhiagdncjpdcaaFlD
import Derived.Test.YthhiagdncjpdcaaFlO
namespace Go.Proofs.Ythhiagdncjpdcaa.Fh
open Go.RowKit Go.Proofs.Ythhiagdncjpdcaa.Mm Go.Proofs.Ythhiagdncjpdcaa.Tg Go.Proofs.Ythhiagdncjpdcaa.Lw Go.Proofs.Ythhiagdncjpdcaa.Op Go.Proofs.Ythhiagdncjpdcaa.Rp
set_option linter.unusedSimpArgs false
set_option linter.unusedVariables false

abbrev hdC (pt : Int) (q : Nat) (b k e : Bool) (n : Nat) : Array Value := #[.int .i64 pt, .int .u8 (q : Int), .bool b, .bool k, .bool e, .int .u64 (n : Int)]
/-- what is heard out of a slice -/
theorem rd_heard {w : World} {B : Nat} {A : Option Addr} {l : List (Int × Nat × Bool × Bool × Bool × Nat)} (h : Rd w B A (heardsCells l)) {i : Nat} (hi : i < l.length) :
    ∃ ad : Addr, A = some ad ∧ ad.block < B ∧ w.cell? (ad.add (i * 6)) = some (.int .i64 l[i].1) ∧ w.cell? ⟨(ad.add (i * 6)).block, (ad.add (i * 6)).off + 1, none⟩ = some (.int .u8 (l[i].2.1 : Int)) ∧
      w.cell? ⟨(ad.add (i * 6)).block, (ad.add (i * 6)).off + 2, none⟩ = some (.bool l[i].2.2.1) ∧ w.cell? ⟨(ad.add (i * 6)).block, (ad.add (i * 6)).off + 3, none⟩ = some (.bool l[i].2.2.2.1) ∧
      w.cell? ⟨(ad.add (i * 6)).block, (ad.add (i * 6)).off + 4, none⟩ = some (.bool l[i].2.2.2.2.1) ∧ w.cell? ⟨(ad.add (i * 6)).block, (ad.add (i * 6)).off + 5, none⟩ = some (.int .u64 (l[i].2.2.2.2.2 : Int)) := by
  obtain ⟨ad, e1, e2, e3⟩ := h (by rw [length_heardsCells]; omega)
  obtain ⟨g0, g1, g2, g3, g4, g5⟩ := get_heardsCells l i hi
  have a2 : ad.add (i * 6 + 2) = ⟨(ad.add (i * 6)).block, (ad.add (i * 6)).off + 2, none⟩ := by rw [← add_add]; rfl
  have a3 : ad.add (i * 6 + 3) = ⟨(ad.add (i * 6)).block, (ad.add (i * 6)).off + 3, none⟩ := by rw [← add_add]; rfl
  have a4 : ad.add (i * 6 + 4) = ⟨(ad.add (i * 6)).block, (ad.add (i * 6)).off + 4, none⟩ := by rw [← add_add]; rfl
  have a5 : ad.add (i * 6 + 5) = ⟨(ad.add (i * 6)).block, (ad.add (i * 6)).off + 5, none⟩ := by rw [← add_add]; rfl
  refine ⟨ad, e1, e2, e3 _ _ g0, ?_, ?_, ?_, ?_, ?_⟩
  · rw [← add_succ]; exact e3 _ _ g1
  · rw [← a2]; exact e3 _ _ g2
  · rw [← a3]; exact e3 _ _ g3
  · rw [← a4]; exact e3 _ _ g4
  · rw [← a5]; exact e3 _ _ g5
/-- the document's pairs, held against themselves -/
theorem eq14 (s0 e0 : Bool) (n0 : Nat) (s1 e1 : Bool) (n1 : Nat) (w : World) : (Op.equalIn 10000 32 (.agg (psC s0 e0 n0 s1 e1 n1)) (.agg (psC s0 e0 n0 s1 e1 n1))).run Try.prog w = .ok true w := by
  rw [show (10000 : Nat) = 9997 + 1 + 1 + 1 from rfl, Op.equalIn]
  simp only [Sem.run_bind, run_underlying Try.underlying32, Result.andThen_ok]
  simp only [Std.Legacy.Range.forIn_eq_forIn_range', Std.Legacy.Range.size, Nat.sub_zero, Nat.add_sub_cancel, Nat.div_one, List.range'_succ, List.range'_zero, List.forIn_cons, List.forIn_nil]
  go_simp
/-- both sides of Hear, by letters -/
theorem hear_let (s0 e0 : Bool) (n0 : Nat) (s1 e1 : Bool) (n1 : Nat) (port : Int) (q : Nat) (b k e : Bool) (n : Nat) : ∃ (t0 f0 : Bool) (m0 : Nat) (t1 f1 : Bool) (m1 : Nat) (y : Bool),
    (∀ w, Calls Try.prog 8 #[psV s0 e0 n0 s1 e1 n1, .int .i64 port, msV q b k e n] w fun x w' => x = .returned (.tuple #[psV t0 f0 m0 t1 f1 m1, .bool y]) ∧ Below w.heap.size w w') ∧
    (∀ w, Calls Try.prog 9 #[psV s0 e0 n0 s1 e1 n1, .int .i64 port, msV q b k e n] w fun x w' => x = .returned (.tuple #[psV t0 f0 m0 t1 f1 m1, .bool y]) ∧ Below w.heap.size w w') := by
  obtain ⟨⟨⟨t0, f0, m0⟩, ⟨t1, f1, m1⟩⟩, y, h1, h2⟩ := hear_both ((s0, e0, n0), (s1, e1, n1)) port q b k e n
  exact ⟨t0, f0, m0, t1, f1, m1, y, h1, h2⟩
theorem again_let0 (s0 e0 : Bool) (n0 : Nat) (s1 e1 : Bool) (n1 : Nat) (q : Nat) (b k e : Bool) (n : Nat) : ∃ (p1 p2 p3 : Bool × Bool × Nat × Bool × Bool × Nat) (y : Bool),
    (∀ w, Calls Try.prog 8 #[psV s0 e0 n0 s1 e1 n1, .int .i64 0, msV q b k e n] w fun x w' => x = .returned (.tuple #[psV p1.1 p1.2.1 p1.2.2.1 p1.2.2.2.1 p1.2.2.2.2.1 p1.2.2.2.2.2, .bool y]) ∧ Below w.heap.size w w') ∧
    (∀ w, Calls Try.prog 8 #[psV p1.1 p1.2.1 p1.2.2.1 p1.2.2.2.1 p1.2.2.2.2.1 p1.2.2.2.2.2, .int .i64 0, msV q b k e n] w fun x w' => x = .returned (.tuple #[psV p2.1 p2.2.1 p2.2.2.1 p2.2.2.2.1 p2.2.2.2.2.1 p2.2.2.2.2.2, .bool false]) ∧ Below w.heap.size w w') ∧
    (∀ w, Calls Try.prog 8 #[psV p1.1 p1.2.1 p1.2.2.1 p1.2.2.2.1 p1.2.2.2.2.1 p1.2.2.2.2.2, .int .i64 1, msV q b k e n] w fun x w' => x = .returned (.tuple #[psV p3.1 p3.2.1 p3.2.2.1 p3.2.2.2.1 p3.2.2.2.2.1 p3.2.2.2.2.2, .bool false]) ∧ Below w.heap.size w w') := by
  obtain ⟨⟨⟨a0, a1, a2⟩, a3, a4, a5⟩, ⟨⟨b0, b1, b2⟩, b3, b4, b5⟩, ⟨⟨c0, c1, c2⟩, c3, c4, c5⟩, y, h1, h2, h3⟩ := again0 ((s0, e0, n0), (s1, e1, n1)) q b k e n
  exact ⟨(a0, a1, a2, a3, a4, a5), (b0, b1, b2, b3, b4, b5), (c0, c1, c2, c3, c4, c5), y, h1, h2, h3⟩

theorem again_let1 (s0 e0 : Bool) (n0 : Nat) (s1 e1 : Bool) (n1 : Nat) (q : Nat) (b k e : Bool) (n : Nat) : ∃ (p1 p2 p3 : Bool × Bool × Nat × Bool × Bool × Nat) (y : Bool),
    (∀ w, Calls Try.prog 8 #[psV s0 e0 n0 s1 e1 n1, .int .i64 1, msV q b k e n] w fun x w' => x = .returned (.tuple #[psV p1.1 p1.2.1 p1.2.2.1 p1.2.2.2.1 p1.2.2.2.2.1 p1.2.2.2.2.2, .bool y]) ∧ Below w.heap.size w w') ∧
    (∀ w, Calls Try.prog 8 #[psV p1.1 p1.2.1 p1.2.2.1 p1.2.2.2.1 p1.2.2.2.2.1 p1.2.2.2.2.2, .int .i64 1, msV q b k e n] w fun x w' => x = .returned (.tuple #[psV p2.1 p2.2.1 p2.2.2.1 p2.2.2.2.1 p2.2.2.2.2.1 p2.2.2.2.2.2, .bool false]) ∧ Below w.heap.size w w') ∧
    (∀ w, Calls Try.prog 8 #[psV p1.1 p1.2.1 p1.2.2.1 p1.2.2.2.1 p1.2.2.2.2.1 p1.2.2.2.2.2, .int .i64 0, msV q b k e n] w fun x w' => x = .returned (.tuple #[psV p3.1 p3.2.1 p3.2.2.1 p3.2.2.2.1 p3.2.2.2.2.1 p3.2.2.2.2.2, .bool false]) ∧ Below w.heap.size w w') := by
  obtain ⟨⟨⟨a0, a1, a2⟩, a3, a4, a5⟩, ⟨⟨b0, b1, b2⟩, b3, b4, b5⟩, ⟨⟨c0, c1, c2⟩, c3, c4, c5⟩, y, h1, h2, h3⟩ := again1 ((s0, e0, n0), (s1, e1, n1)) q b k e n
  exact ⟨(a0, a1, a2, a3, a4, a5), (b0, b1, b2, b3, b4, b5), (c0, c1, c2, c3, c4, c5), y, h1, h2, h3⟩

set_option maxRecDepth 100000 in
set_option maxHeartbeats 8000000 in
theorem hears_walk (ps : List (Int × Nat × Bool × Bool × Bool × Nat)) (A : Option Addr) (c : Nat) (w : World)
    (hm : ps.length ≤ maxLen) (hA : Rd w w.heap.size A (heardsCells ps)) (hB : ∀ q ∈ ps, (-9223372036854775808 ≤ q.1 ∧ q.1 ≤ 9223372036854775807) ∧ q.2.1 < 256 ∧ q.2.2.2.2.2 < 18446744073709551616) :
    Calls Try.prog 3 #[.slice A ps.length c] w (Law1 w) := by
  unfold maxLen at hm
  have HA := Lib.hid hA; have HB := Lib.hid hB
  clear hA hB
  by_cases h80 : 100 < ps.length
  · have hl2 : decide ((100 : Int) < (ps.length : Int)) = true := decide_eq_true (by omega)
    go_enter Try.func3, Try.ntmps3
    go_wp2_with fail
    refine (awake14 w).mono ?_
    rintro e w1 ⟨rfl, hb⟩
    have HW := Lib.hid hb; clear hb
    go_wp2
    go_ret
    exact ⟨rfl, HW.out⟩
  have hl2 : decide ((100 : Int) < (ps.length : Int)) = false := decide_eq_false (by omega)
  go_enter Try.func3, Try.ntmps3
  go_upto_region 5 with (fail)
  have HT := Lib.hid ((Blk.fresh w 29 (psC false false 0 false false 0)).alloc (.cells (psC false false 0 false false 0) 32))
  have HR := Lib.hid (fresh_second w (.cells (psC false false 0 false false 0) 29) 32 (psC false false 0 false false 0))
  have HW := Lib.hid (((Below.refl w.heap.size w).alloc (Nat.le_refl _) (.cells (psC false false 0 false false 0) 29)).alloc (by simp) (.cells (psC false false 0 false false 0) 32))
  generalize (w.alloc (.cells (psC false false 0 false false 0) 29)).alloc (.cells (psC false false 0 false false 0) 32) = w2 at HT HR HW ⊢
  obtain ⟨a, ha⟩ : ∃ a, a = w.heap.size := ⟨_, rfl⟩
  have L0 : w.heap.size ≤ a := by omega
  rw [← ha] at HT HR ⊢
  clear ha
  go_wp2_with fail
  go_loopw [17] (fun i wr => ∃ (k : Nat) (s0 e0 : Bool) (n0 : Nat) (s1 e1 : Bool) (n1 : Nat), k ≤ ps.length ∧ i = .int .i64 k ∧ Blk wr a 29 (psC s0 e0 n0 s1 e1 n1) ∧ Blk wr (a + 1) 32 (psC s0 e0 n0 s1 e1 n1) ∧ Below w.heap.size w wr) (fun i _ => ps.length - (intOf i).toNat)
  case atStart => exact ⟨0, false, false, 0, false, false, 0, Nat.zero_le _, rfl, HT.out, HR.out, HW.out⟩
  case round =>
    obtain ⟨k, s0, e0, n0, s1, e1, n1, hk, rfl, hT, hR, hW⟩ := hrel
    clear HT HR HW
    have HT := Lib.hid hT; have HR := Lib.hid hR; have HW := Lib.hid hW
    clear hT hR hW
    by_cases hlt : k < ps.length
    · obtain ⟨ad, hAd, hbl, c0, c1, c2, c3, c4, c5⟩ := rd_heard (HA.out.below HW.out) hlt
      subst hAd
      have hq := HB.out _ (List.getElem_mem hlt)
      obtain ⟨qq, hqe⟩ : ∃ qq, qq = ps[k] := ⟨_, rfl⟩
      rw [← hqe] at c0 c1 c2 c3 c4 c5 hq
      clear hqe
      obtain ⟨pt, q, b, kp, e, n⟩ := qq
      dsimp only at c0 c1 c2 c3 c4 c5 hq
      have hi2 : 0 ≤ (k : Int) ∧ (k : Int) < (ps.length : Int) := by omega
      obtain ⟨t0, f0, m0, t1, f1, m1, y, h1, h2⟩ := hear_let s0 e0 n0 s1 e1 n1 pt q b kp e n
      have H1 := Lib.hid h1; have H2 := Lib.hid h2
      clear h1 h2 hq
      go_upto_region 8 with (fail)
      obtain ⟨x, hx⟩ : ∃ x, x = wr.heap.size := ⟨_, rfl⟩
      have LX : a + 1 < x := by rw [hx]; exact HR.out.lt
      have hQ := (Below.refl wr.heap.size wr).alloc (Nat.le_refl _) (.cells (hdC pt q b kp e n) 37)
      have HT1 := Lib.hid (HT.out.below hQ HT.out.lt)
      have HR1 := Lib.hid (HR.out.below hQ HR.out.lt)
      have HC1 := Lib.hid (Blk.fresh wr 37 (hdC pt q b kp e n))
      have HW1 := Lib.hid (HW.out.trans (hQ.mono HW.out.size))
      rw [← hx] at HC1 ⊢
      clear hQ hx HT HR HW c0 c1 c2 c3 c4 c5 hbl
      generalize wr.alloc (.cells (hdC pt q b kp e n) 37) = w3 at HT1 HR1 HC1 HW1 ⊢
      cases Rw6.row HT1.out
      cases Rw6.row HC1.out
      go_wp2_with fail
      refine (H1.out w3).mono ?_
      rintro ev w5 ⟨rfl, hb⟩
      have HT5 := Lib.hid (HT1.out.below hb HT1.out.lt)
      have HR5 := Lib.hid (HR1.out.below hb HR1.out.lt)
      have HC5 := Lib.hid (HC1.out.below hb HC1.out.lt)
      have HW5 := Lib.hid (HW1.out.trans (hb.mono HW1.out.size))
      clear hb HT1 HR1 HC1 HW1
      go_upto_region 9 with (fail)
      obtain ⟨w6, hw6, b1, b2, b3, b4, b5⟩ : ∃ w6 : World, w6 = w5.alloc (.cells (psC t0 f0 m0 t1 f1 m1) 29) ∧ Blk w6 a 29 (psC s0 e0 n0 s1 e1 n1) ∧ Blk w6 (a + 1) 32 (psC s0 e0 n0 s1 e1 n1) ∧ Blk w6 x 37 (hdC pt q b kp e n) ∧ Blk w6 w5.heap.size 29 (psC t0 f0 m0 t1 f1 m1) ∧ Below w.heap.size w w6 := ⟨_, rfl, HT5.out.alloc _, HR5.out.alloc _, HC5.out.alloc _, Blk.fresh _ _ _, HW5.out.alloc HW5.out.size _⟩
      rw [← hw6]
      have LY : x < w5.heap.size := HC5.out.lt
      generalize w5.heap.size = u at b4 LY ⊢
      have HT := Lib.hid b1; have HR := Lib.hid b2; have HC := Lib.hid b3; have HY := Lib.hid b4; have HW := Lib.hid b5
      clear hw6 b1 b2 b3 b4 b5 HT5 HR5 HC5 HW5
      have HAr := HA; clear HA
      have LU : u < w6.heap.size := HY.out.lt
      go_cut [9, 10] (fun s9 s10 wx => ∃ z, s9 = .pointer (some ⟨z, 0, none⟩) ∧ s10 = .bool y ∧ w6.heap.size ≤ z ∧ Blk wx z 32 (psC t0 f0 m0 t1 f1 m1) ∧ Below w6.heap.size w6 wx)
      case first =>
        refine wp_region_held_drew (S := fun wx => Blk wx (a + 1) 32 (psC s0 e0 n0 s1 e1 n1) ∧ Blk wx x 37 (hdC pt q b kp e n)) (by kernel_rfl) ⟨HR.out.drew, HC.out.drew⟩ (fun hHeld => ?_)
        have HBR := Lib.hid ((Below.refl w6.heap.size w6).drew)
        have KS := Lib.hid ((Rg.Keeps.one (a + 1) 32 (psC s0 e0 n0 s1 e1 n1)).and (Rg.Keeps.one x 37 (hdC pt q b kp e n)))
        generalize w6.drew = wd at hHeld HBR ⊢

        refine Rg.tk 0 (v := ?_) ?_ ?_
        rotate_left
        · intro wx hSx
          cases Rw6.row hSx.1; cases Rw6.row hSx.2; go_simp
          all_goals with_reducible rfl
        simp only [Act.put, Rg.e1, Rg.e2, Rg.e3, Rg.e4, Rg.e5, Rg.e6]
        refine Rg.tk 1 (v := ?_) ?_ ?_
        rotate_left
        · (intro wx hSx; go_simp; all_goals with_reducible rfl)
        simp only [Act.put, Rg.e1, Rg.e2, Rg.e3, Rg.e4, Rg.e5, Rg.e6]
        refine Rg.tk 2 (v := ?_) ?_ ?_
        rotate_left
        · intro wx hSx
          cases Rw6.row hSx.1; cases Rw6.row hSx.2; go_simp
          all_goals with_reducible rfl
        simp only [Act.put, Rg.e1, Rg.e2, Rg.e3, Rg.e4, Rg.e5, Rg.e6]
        refine Rg.tk 3 (v := ?_) ?_ ?_
        rotate_left
        · (intro wx hSx; go_simp; all_goals with_reducible rfl)
        simp only [Act.put, Rg.e1, Rg.e2, Rg.e3, Rg.e4, Rg.e5, Rg.e6]
        refine Rg.tk 4 (v := ?_) ?_ ?_
        rotate_left
        · intro wx hSx
          cases Rw6.row hSx.1; cases Rw6.row hSx.2; go_simp
          all_goals with_reducible rfl
        simp only [Act.put, Rg.e1, Rg.e2, Rg.e3, Rg.e4, Rg.e5, Rg.e6]
        refine wpAnyH_ready (rs := [5, 10]) (by kernel_rfl) (by simp) ?_
        refine .cons (o := _) rfl (fun K hK => ?_) ?_
        · go_simp
          refine (of5_any q b kp e n wd).mono ?_
          rintro x wr1 ⟨rfl, hbc⟩
          go_wp2_with fail
          refine Rg.st_call hK hHeld KS.out HBR.out hbc ?_
          clear hK K
          intro hHeld hbr
          have HBR := Lib.hid hbr
          clear hbr hbc
          try simp only [Rg.e1, Rg.e2, Rg.e3]
          refine wpAnyH_ready (rs := [6, 10]) (by kernel_rfl) (by simp) ?_
          refine .cons (o := _) rfl (fun K hK => ?_) ?_
          · go_simp
            refine (H2.out wr1).mono ?_
            rintro x wr2 ⟨rfl, hbc⟩
            go_wp2_with fail
            refine Rg.st_call hK hHeld KS.out HBR.out hbc ?_
            clear hK K
            intro hHeld hbr
            have HBR := Lib.hid hbr
            clear hbr hbc
            try simp only [Rg.e1, Rg.e2, Rg.e3]
            refine Rg.tk 7 (v := ?_) ?_ ?_
            rotate_left
            · (intro wx hSx; go_simp; all_goals with_reducible rfl)
            simp only [Act.put, Rg.e1, Rg.e2, Rg.e3, Rg.e4, Rg.e5, Rg.e6]
            refine Rg.tk 8 (v := ?_) ?_ ?_
            rotate_left
            · (intro wx hSx; go_simp; all_goals with_reducible rfl)
            simp only [Act.put, Rg.e1, Rg.e2, Rg.e3, Rg.e4, Rg.e5, Rg.e6]
            refine Rg.tk 9 (v := ?_) ?_ ?_
            rotate_left
            · (intro wx hSx; go_simp; all_goals with_reducible rfl)
            simp only [Act.put, Rg.e1, Rg.e2, Rg.e3, Rg.e4, Rg.e5, Rg.e6]
            refine wpAnyH_ready (rs := [10]) (by kernel_rfl) (by simp) ?_
            refine .cons (o := _) rfl (fun K hK => ?_) ?_
            · go_simp
              refine Rg.st_mk hK hHeld KS.out HBR.out ?_
              clear hK K
              have HGA := Lib.hid (HBR.out.size)
              intro wr3 hlt hHeld hblk hbr
              have HBR := Lib.hid hbr
              have HA := Lib.hid hblk
              clear hbr hblk hlt
              try simp only [Rg.e1, Rg.e2, Rg.e3]
              refine wpAnyH_ready (rs := [11]) (by kernel_rfl) (by simp) ?_
              refine .cons (o := _) rfl (fun K hK => ?_) ?_
              · cases Rw6.row HA.out
                go_simp
                have HG := HGA.out
                refine hK.out _ _ ⟨Rw6.far hHeld.1 (by omega) _ _ _ _ _ _, Rw6.far hHeld.2 (by omega) _ _ _ _ _ _⟩ (fun hHeld => ?_)
                clear hK K
                try simp only [Rg.e1, Rg.e2, Rg.e3]
                refine Rg.tk 12 (v := ?_) ?_ ?_
                rotate_left
                · (intro wx hSx; go_simp; all_goals with_reducible rfl)
                simp only [Act.put, Rg.e1, Rg.e2, Rg.e3, Rg.e4, Rg.e5, Rg.e6]
                refine wpAnyH_done (by kernel_rfl) ?_ _
                go_wp2_with fail
                go_meet
                exact ⟨_, rfl, rfl, HGA.out, Rw6.blk_set HA.out _ _ _ _ _ _, Rw6.below_set HBR.out HGA.out _ _ _ _ _ _⟩
              exact AllReadyH.nil
            exact AllReadyH.nil
          refine .cons (o := _) rfl (fun K hK => ?_) ?_
          · go_simp
            refine Rg.st_mk hK hHeld KS.out HBR.out ?_
            clear hK K
            have HGA := Lib.hid (HBR.out.size)
            intro wr5 hlt hHeld hblk hbr
            have HBR := Lib.hid hbr
            have HA := Lib.hid hblk
            clear hbr hblk hlt
            try simp only [Rg.e1, Rg.e2, Rg.e3]
            refine wpAnyH_ready (rs := [6]) (by kernel_rfl) (by simp) ?_
            refine .cons (o := _) rfl (fun K hK => ?_) ?_
            · go_simp
              refine (H2.out wr5).mono ?_
              rintro x wr6 ⟨rfl, hbc⟩
              go_wp2_with fail
              have HA9 := HA
              have HA := Lib.hid (HA9.out.below hbc HA9.out.lt)
              clear HA9
              refine Rg.st_call hK hHeld KS.out HBR.out hbc ?_
              clear hK K
              intro hHeld hbr
              have HBR := Lib.hid hbr
              clear hbr hbc
              try simp only [Rg.e1, Rg.e2, Rg.e3]
              refine Rg.tk 7 (v := ?_) ?_ ?_
              rotate_left
              · (intro wx hSx; go_simp; all_goals with_reducible rfl)
              simp only [Act.put, Rg.e1, Rg.e2, Rg.e3, Rg.e4, Rg.e5, Rg.e6]
              refine Rg.tk 8 (v := ?_) ?_ ?_
              rotate_left
              · (intro wx hSx; go_simp; all_goals with_reducible rfl)
              simp only [Act.put, Rg.e1, Rg.e2, Rg.e3, Rg.e4, Rg.e5, Rg.e6]
              refine Rg.tk 9 (v := ?_) ?_ ?_
              rotate_left
              · (intro wx hSx; go_simp; all_goals with_reducible rfl)
              simp only [Act.put, Rg.e1, Rg.e2, Rg.e3, Rg.e4, Rg.e5, Rg.e6]
              refine wpAnyH_ready (rs := [11]) (by kernel_rfl) (by simp) ?_
              refine .cons (o := _) rfl (fun K hK => ?_) ?_
              · cases Rw6.row HA.out
                go_simp
                have HG := HGA.out
                refine hK.out _ _ ⟨Rw6.far hHeld.1 (by omega) _ _ _ _ _ _, Rw6.far hHeld.2 (by omega) _ _ _ _ _ _⟩ (fun hHeld => ?_)
                clear hK K
                try simp only [Rg.e1, Rg.e2, Rg.e3]
                refine Rg.tk 12 (v := ?_) ?_ ?_
                rotate_left
                · (intro wx hSx; go_simp; all_goals with_reducible rfl)
                simp only [Act.put, Rg.e1, Rg.e2, Rg.e3, Rg.e4, Rg.e5, Rg.e6]
                refine wpAnyH_done (by kernel_rfl) ?_ _
                go_wp2_with fail
                go_meet
                exact ⟨_, rfl, rfl, HGA.out, Rw6.blk_set HA.out _ _ _ _ _ _, Rw6.below_set HBR.out HGA.out _ _ _ _ _ _⟩
              exact AllReadyH.nil
            exact AllReadyH.nil
          exact AllReadyH.nil
        refine .cons (o := _) rfl (fun K hK => ?_) ?_
        · go_simp
          refine Rg.st_mk hK hHeld KS.out HBR.out ?_
          clear hK K
          have HGA := Lib.hid (HBR.out.size)
          intro wr8 hlt hHeld hblk hbr
          have HBR := Lib.hid hbr
          have HA := Lib.hid hblk
          clear hbr hblk hlt
          try simp only [Rg.e1, Rg.e2, Rg.e3]
          refine wpAnyH_ready (rs := [5]) (by kernel_rfl) (by simp) ?_
          refine .cons (o := _) rfl (fun K hK => ?_) ?_
          · go_simp
            refine (of5_any q b kp e n wr8).mono ?_
            rintro x wr9 ⟨rfl, hbc⟩
            go_wp2_with fail
            have HA9 := HA
            have HA := Lib.hid (HA9.out.below hbc HA9.out.lt)
            clear HA9
            refine Rg.st_call hK hHeld KS.out HBR.out hbc ?_
            clear hK K
            intro hHeld hbr
            have HBR := Lib.hid hbr
            clear hbr hbc
            try simp only [Rg.e1, Rg.e2, Rg.e3]
            refine wpAnyH_ready (rs := [6]) (by kernel_rfl) (by simp) ?_
            refine .cons (o := _) rfl (fun K hK => ?_) ?_
            · go_simp
              refine (H2.out wr9).mono ?_
              rintro x wr10 ⟨rfl, hbc⟩
              go_wp2_with fail
              have HA9 := HA
              have HA := Lib.hid (HA9.out.below hbc HA9.out.lt)
              clear HA9
              refine Rg.st_call hK hHeld KS.out HBR.out hbc ?_
              clear hK K
              intro hHeld hbr
              have HBR := Lib.hid hbr
              clear hbr hbc
              try simp only [Rg.e1, Rg.e2, Rg.e3]
              refine Rg.tk 7 (v := ?_) ?_ ?_
              rotate_left
              · (intro wx hSx; go_simp; all_goals with_reducible rfl)
              simp only [Act.put, Rg.e1, Rg.e2, Rg.e3, Rg.e4, Rg.e5, Rg.e6]
              refine Rg.tk 8 (v := ?_) ?_ ?_
              rotate_left
              · (intro wx hSx; go_simp; all_goals with_reducible rfl)
              simp only [Act.put, Rg.e1, Rg.e2, Rg.e3, Rg.e4, Rg.e5, Rg.e6]
              refine Rg.tk 9 (v := ?_) ?_ ?_
              rotate_left
              · (intro wx hSx; go_simp; all_goals with_reducible rfl)
              simp only [Act.put, Rg.e1, Rg.e2, Rg.e3, Rg.e4, Rg.e5, Rg.e6]
              refine wpAnyH_ready (rs := [11]) (by kernel_rfl) (by simp) ?_
              refine .cons (o := _) rfl (fun K hK => ?_) ?_
              · cases Rw6.row HA.out
                go_simp
                have HG := HGA.out
                refine hK.out _ _ ⟨Rw6.far hHeld.1 (by omega) _ _ _ _ _ _, Rw6.far hHeld.2 (by omega) _ _ _ _ _ _⟩ (fun hHeld => ?_)
                clear hK K
                try simp only [Rg.e1, Rg.e2, Rg.e3]
                refine Rg.tk 12 (v := ?_) ?_ ?_
                rotate_left
                · (intro wx hSx; go_simp; all_goals with_reducible rfl)
                simp only [Act.put, Rg.e1, Rg.e2, Rg.e3, Rg.e4, Rg.e5, Rg.e6]
                refine wpAnyH_done (by kernel_rfl) ?_ _
                go_wp2_with fail
                go_meet
                exact ⟨_, rfl, rfl, HGA.out, Rw6.blk_set HA.out _ _ _ _ _ _, Rw6.below_set HBR.out HGA.out _ _ _ _ _ _⟩
              exact AllReadyH.nil
            exact AllReadyH.nil
          exact AllReadyH.nil
        exact AllReadyH.nil
      case rest =>
        obtain ⟨z, rfl, rfl, hz, hzb, hb⟩ := hcut
        have HT9 := HT; have HR9 := HR; have HY9 := HY; have HW9 := HW
        have HT := Lib.hid (HT9.out.below hb HT9.out.lt).drew
        have HR := Lib.hid (HR9.out.below hb HR9.out.lt).drew
        have HW := Lib.hid (HW9.out.trans (hb.mono HW9.out.size)).drew
        have hy := HY9.out.below hb HY9.out.lt
        clear HT9 HR9 HY9 HW9 hb HC HY
        go_upto_region 10 with (fail)
        refine wp_region_held_drew (S := fun wx => Blk wx u 29 (psC t0 f0 m0 t1 f1 m1) ∧ Blk wx z 32 (psC t0 f0 m0 t1 f1 m1)) (by kernel_rfl) ⟨hy.drew, hzb.drew⟩ (fun hHeld => ?_)
        clear hy hzb
        generalize wc.drew = wd at hHeld HT HR HW ⊢

        refine Rg.tk 0 (v := ?_) ?_ ?_
        rotate_left
        · intro wx hSx
          cases Rw6.row hSx.1; cases Rw6.row hSx.2; go_simp
          all_goals with_reducible rfl
        simp only [Act.put, Rg.e1, Rg.e2, Rg.e3, Rg.e4, Rg.e5, Rg.e6]
        refine Rg.tk 1 (v := ?_) ?_ ?_
        rotate_left
        · intro wx hSx
          cases Rw6.row hSx.1; cases Rw6.row hSx.2; go_simp
          all_goals with_reducible rfl
        simp only [Act.put, Rg.e1, Rg.e2, Rg.e3, Rg.e4, Rg.e5, Rg.e6]
        refine wpAnyH_ready (rs := [2]) (by kernel_rfl) (by simp) ?_
        refine .cons (o := _) rfl (fun K hK => ?_) ?_
        · cases Rw6.row HT.out
          go_simp
          refine Rg.st_same hK ⟨Rw6.far hHeld.1 (by omega) _ _ _ _ _ _, Rw6.far hHeld.2 (by omega) _ _ _ _ _ _⟩ (fun hHeld => ?_)
          clear hK K
          obtain ⟨wf, hw9⟩ : ∃ wf, wf = Rw6.set wd a (.bool t0) (.bool f0) (.int .u64 (m0 : Int)) (.bool t1) (.bool f1) (.int .u64 (m1 : Int)) := ⟨_, rfl⟩
          have HT1 : Hid (Blk wf a 29 (psC t0 f0 m0 t1 f1 m1)) := Lib.hid (by rw [hw9]; exact Rw6.blk_set HT.out _ _ _ _ _ _)
          have HR1 : Hid (Blk wf (a + 1) 32 (psC s0 e0 n0 s1 e1 n1)) := Lib.hid (by rw [hw9]; exact Rw6.far HR.out (by omega) _ _ _ _ _ _)
          have HW1 : Hid (Below w.heap.size w wf) := Lib.hid (by rw [hw9]; exact Rw6.below_set HW.out L0 _ _ _ _ _ _)
          dsimp only [Rw6.set] at hw9
          rw [← hw9] at hHeld ⊢
          clear hw9
          try simp only [Rg.e1, Rg.e2, Rg.e3]
          refine wpAnyH_ready (rs := [3]) (by kernel_rfl) (by simp) ?_
          refine .cons (o := _) rfl (fun K hK => ?_) ?_
          · cases Rw6.row HR1.out
            go_simp
            refine Rg.st_same hK ⟨Rw6.far hHeld.1 (by omega) _ _ _ _ _ _, Rw6.far hHeld.2 (by omega) _ _ _ _ _ _⟩ (fun hHeld => ?_)
            clear hK K
            obtain ⟨wg, hw9⟩ : ∃ wg, wg = Rw6.set wf (a + 1) (.bool t0) (.bool f0) (.int .u64 (m0 : Int)) (.bool t1) (.bool f1) (.int .u64 (m1 : Int)) := ⟨_, rfl⟩
            have HT2 : Hid (Blk wg a 29 (psC t0 f0 m0 t1 f1 m1)) := Lib.hid (by rw [hw9]; exact Rw6.far HT1.out (by omega) _ _ _ _ _ _)
            have HR2 : Hid (Blk wg (a + 1) 32 (psC t0 f0 m0 t1 f1 m1)) := Lib.hid (by rw [hw9]; exact Rw6.blk_set HR1.out _ _ _ _ _ _)
            have HW2 : Hid (Below w.heap.size w wg) := Lib.hid (by rw [hw9]; exact Rw6.below_set HW1.out (by omega) _ _ _ _ _ _)
            dsimp only [Rw6.set] at hw9
            rw [← hw9] at hHeld ⊢
            clear hw9
            try simp only [Rg.e1, Rg.e2, Rg.e3]
            refine wpAnyH_done (by kernel_rfl) ?_ _
            go_upto_region 11 with (fail)
            have y0 : (y != y) = false := by simp
            have y1 : (t0 == t0) = true := beq_iff_eq.2 rfl
            have y2 : (f0 == f0) = true := beq_iff_eq.2 rfl
            have y3 : ((m0 : Int) == (m0 : Int)) = true := beq_iff_eq.2 rfl
            have y4 : (t1 == t1) = true := beq_iff_eq.2 rfl
            have y5 : (f1 == f1) = true := beq_iff_eq.2 rfl
            have y6 : ((m1 : Int) == (m1 : Int)) = true := beq_iff_eq.2 rfl
            refine wp_region_held_drew (S := fun wx => Blk wx a 29 (psC t0 f0 m0 t1 f1 m1) ∧ Blk wx (a + 1) 32 (psC t0 f0 m0 t1 f1 m1)) (by kernel_rfl) ⟨HT2.out.drew, HR2.out.drew⟩ (fun hHeld => ?_)
            have HBR := Lib.hid HW2.out.drew
            have KS := Lib.hid ((Rg.Keeps.one a 29 (psC t0 f0 m0 t1 f1 m1)).and (Rg.Keeps.one (a + 1) 32 (psC t0 f0 m0 t1 f1 m1)))
            clear HT1 HR1 HW1 HT2 HR2 HW2
            generalize wg.drew = we at hHeld HBR ⊢
            refine Rg.tk 0 (v := ?_) ?_ ?_
            rotate_left
            · (intro wx hSx; go_simp; all_goals with_reducible rfl)
            simp only [Act.put, Rg.e1, Rg.e2, Rg.e3, Rg.e4, Rg.e5, Rg.e6]
            refine Rg.tk 1 (v := ?_) ?_ ?_
            rotate_left
            · (intro wx hSx; go_simp; all_goals with_reducible rfl)
            simp only [Act.put, Rg.e1, Rg.e2, Rg.e3, Rg.e4, Rg.e5, Rg.e6]
            refine Rg.tk 2 (v := ?_) ?_ ?_
            rotate_left
            · (intro wx hSx; go_simp; all_goals with_reducible rfl)
            simp only [Act.put, Rg.e1, Rg.e2, Rg.e3, Rg.e4, Rg.e5, Rg.e6]
            refine Rg.tk 3 (v := ?_) ?_ ?_
            rotate_left
            · (intro wx hSx; go_simp; all_goals with_reducible rfl)
            simp only [Act.put, Rg.e1, Rg.e2, Rg.e3, Rg.e4, Rg.e5, Rg.e6]
            refine Rg.tk 4 (v := ?_) ?_ ?_
            rotate_left
            · intro wx hSx
              cases Rw6.row hSx.1; cases Rw6.row hSx.2; go_simp
              all_goals with_reducible rfl
            simp only [Act.put, Rg.e1, Rg.e2, Rg.e3, Rg.e4, Rg.e5, Rg.e6]
            refine Rg.tk 6 (v := ?_) ?_ ?_
            rotate_left
            · intro wx hSx
              cases Rw6.row hSx.1; cases Rw6.row hSx.2; go_simp
              all_goals with_reducible rfl
            simp only [Act.put, Rg.e1, Rg.e2, Rg.e3, Rg.e4, Rg.e5, Rg.e6]
            refine wpAnyH_ready (rs := [5]) (by kernel_rfl) (by simp) ?_
            refine .cons (o := _) rfl (fun K hK => ?_) ?_
            · go_simp
              refine (of14_any t0 f0 m0 t1 f1 m1 we).mono ?_
              rintro x wr1 ⟨rfl, hbc⟩
              go_wp2_with fail
              refine Rg.st_same hK (KS.out _ _ hHeld hbc) ?_
              clear hK K
              intro hHeld
              have HBR := Lib.hid (HBR.out.trans (hbc.mono HBR.out.size))
              clear hbc
              try simp only [Rg.e1, Rg.e2, Rg.e3]
              refine Rg.tk 7 (v := ?_) ?_ ?_
              rotate_left
              · intro wx hSx
                go_simp; rw [eq14 t0 f0 m0 t1 f1 m1]; go_simp
                all_goals with_reducible rfl
              simp only [Act.put, Rg.e1, Rg.e2, Rg.e3, Rg.e4, Rg.e5, Rg.e6]
              refine Rg.tk 8 (v := ?_) ?_ ?_
              rotate_left
              · (intro wx hSx; go_simp; all_goals with_reducible rfl)
              simp only [Act.put, Rg.e1, Rg.e2, Rg.e3, Rg.e4, Rg.e5, Rg.e6]
              refine wpAnyH_done (by kernel_rfl) ?_ _
              go_wp2
              go_roundw
              case rel => exact ⟨k + 1, t0, f0, m0, t1, f1, m1, by omega, by go_num, hHeld.1, hHeld.2, HBR.out⟩
              case measure => simp [intOf]; omega
            exact AllReadyH.nil
          exact AllReadyH.nil
        exact AllReadyH.nil
    · have hd : decide ((k : Int) < (ps.length : Int)) = false := decide_eq_false (by omega)
      go_wp2_with fail
      refine (awake14 wr).mono ?_
      rintro e w5 ⟨rfl, hb⟩
      have HW5 := Lib.hid (HW.out.trans (hb.mono HW.out.size))
      clear hb
      go_wp2
      go_ret
      exact ⟨rfl, HW5.out⟩

set_option maxRecDepth 100000 in
set_option maxHeartbeats 8000000 in
theorem once_walk (ps : List (Int × Nat × Bool × Bool × Bool × Nat)) (A : Option Addr) (c : Nat) (q0 : Nat) (b0 k0 g0 : Bool) (j0 : Nat) (east : Bool) (w : World)
    (hm : ps.length ≤ maxLen) (hA : Rd w w.heap.size A (heardsCells ps)) (hB : ∀ q ∈ ps, (-9223372036854775808 ≤ q.1 ∧ q.1 ≤ 9223372036854775807) ∧ q.2.1 < 256 ∧ q.2.2.2.2.2 < 18446744073709551616) (_hq : q0 < 256) (_hn : j0 < 18446744073709551616) :
    Calls Try.prog 4 #[.slice A ps.length c, msV q0 b0 k0 g0 j0, .bool east] w (Law1 w) := by
  unfold maxLen at hm
  have HA := Lib.hid hA; have HB := Lib.hid hB
  clear hA hB
  have hM := Blk.fresh w 35 (msC q0 b0 k0 g0 j0)
  have hW := (Below.refl w.heap.size w).alloc (Nat.le_refl _) (.cells (msC q0 b0 k0 g0 j0) 35)
  by_cases h80 : 100 < ps.length
  · have hl2 : decide ((100 : Int) < (ps.length : Int)) = true := decide_eq_true (by omega)
    go_enter Try.func4, Try.ntmps4
    go_wp2_with fail
    refine (awake14 _).mono ?_
    rintro e w1 ⟨rfl, hb⟩
    have HW := Lib.hid (hW.trans (hb.mono hW.size)); clear hb
    go_wp2
    go_ret
    exact ⟨rfl, HW.out⟩
  have hl2 : decide ((100 : Int) < (ps.length : Int)) = false := decide_eq_false (by omega)
  clear hM hW
  go_enter Try.func4, Try.ntmps4
  go_upto_region 4 with (fail)
  have HM := Lib.hid ((Blk.fresh w 35 (msC q0 b0 k0 g0 j0)).alloc (.cells (psC false false 0 false false 0) 29))
  have HT := Lib.hid (fresh_second w (.cells (msC q0 b0 k0 g0 j0) 35) 29 (psC false false 0 false false 0))
  have HW := Lib.hid (((Below.refl w.heap.size w).alloc (Nat.le_refl _) (.cells (msC q0 b0 k0 g0 j0) 35)).alloc (by simp) (.cells (psC false false 0 false false 0) 29))
  generalize (w.alloc (.cells (msC q0 b0 k0 g0 j0) 35)).alloc (.cells (psC false false 0 false false 0) 29) = w2 at HM HT HW ⊢
  obtain ⟨a, ha⟩ : ∃ a, a = w.heap.size := ⟨_, rfl⟩
  have L0 : w.heap.size ≤ a := by omega
  rw [← ha] at HM HT ⊢
  clear ha
  go_wp2_with fail
  go_loopw [21] (fun i wr => ∃ (k : Nat) (s0 e0 : Bool) (n0 : Nat) (s1 e1 : Bool) (n1 : Nat), k ≤ ps.length ∧ i = .int .i64 k ∧ Blk wr a 35 (msC q0 b0 k0 g0 j0) ∧ Blk wr (a + 1) 29 (psC s0 e0 n0 s1 e1 n1) ∧ Below w.heap.size w wr) (fun i _ => ps.length - (intOf i).toNat)
  case atStart => exact ⟨0, false, false, 0, false, false, 0, Nat.zero_le _, rfl, HM.out, HT.out, HW.out⟩
  case round =>
    obtain ⟨k, s0, e0, n0, s1, e1, n1, hk, rfl, hM, hT, hW⟩ := hrel
    clear HM HT HW
    have HM := Lib.hid hM; have HT := Lib.hid hT; have HW := Lib.hid hW
    clear hM hT hW
    by_cases hlt : k < ps.length
    · obtain ⟨ad, hAd, hbl, c0, c1, c2, c3, c4, c5⟩ := rd_heard (HA.out.below HW.out) hlt
      subst hAd
      have hq := HB.out _ (List.getElem_mem hlt)
      obtain ⟨qq, hqe⟩ : ∃ qq, qq = ps[k] := ⟨_, rfl⟩
      rw [← hqe] at c0 c1 c2 c3 c4 c5 hq
      clear hqe
      obtain ⟨pt, q, b, kp, e, n⟩ := qq
      dsimp only at c0 c1 c2 c3 c4 c5 hq
      have hi2 : 0 ≤ (k : Int) ∧ (k : Int) < (ps.length : Int) := by omega
      obtain ⟨t0, f0, m0, t1, f1, m1, y, h1, h2⟩ := hear_let s0 e0 n0 s1 e1 n1 pt q b kp e n
      have H1 := Lib.hid h1
      clear h1 h2 hq
      go_upto_region 7 with (fail)
      obtain ⟨x, hx⟩ : ∃ x, x = wr.heap.size := ⟨_, rfl⟩
      have LX : a + 1 < x := by rw [hx]; exact HT.out.lt
      have hQ := (Below.refl wr.heap.size wr).alloc (Nat.le_refl _) (.cells (hdC pt q b kp e n) 37)
      have HT1 := Lib.hid (HT.out.below hQ HT.out.lt)
      have HM1 := Lib.hid (HM.out.below hQ HM.out.lt)
      have HC1 := Lib.hid (Blk.fresh wr 37 (hdC pt q b kp e n))
      have HW1 := Lib.hid (HW.out.trans (hQ.mono HW.out.size))
      rw [← hx] at HC1 ⊢
      clear hQ hx HT HM HW c0 c1 c2 c3 c4 c5 hbl
      generalize wr.alloc (.cells (hdC pt q b kp e n) 37) = w3 at HT1 HM1 HC1 HW1 ⊢
      cases Rw6.row HT1.out
      cases Rw6.row HC1.out
      go_wp2_with fail
      refine (H1.out w3).mono ?_
      rintro ev w5 ⟨rfl, hb⟩
      have HT5 := Lib.hid (HT1.out.below hb HT1.out.lt)
      have HM5 := Lib.hid (HM1.out.below hb HM1.out.lt)
      have HW5 := Lib.hid (HW1.out.trans (hb.mono HW1.out.size))
      clear hb HT1 HM1 HC1 HW1
      cases Rw6.row HT5.out
      go_wp2
      go_roundw
      case rel => exact ⟨k + 1, t0, f0, m0, t1, f1, m1, by omega, by go_num, Rw6.far HM5.out (by omega) _ _ _ _ _ _, Rw6.blk_set HT5.out _ _ _ _ _ _, Rw6.below_set HW5.out (by omega) _ _ _ _ _ _⟩
      case measure => simp [intOf]; omega
    · have hd : decide ((k : Int) < (ps.length : Int)) = false := decide_eq_false (by omega)
      have i0 : IntKind.i64.wrap 0 = 0 := by decide
      have i1 : IntKind.i64.wrap 1 = 1 := by decide
      cases east with
      | false =>
        obtain ⟨⟨a0, a1, a2, a3, a4, a5⟩, ⟨d0, d1, d2, d3, d4, d5⟩, ⟨c0, c1, c2, c3, c4, c5⟩, y, h1, h2, h3⟩ := again_let0 s0 e0 n0 s1 e1 n1 q0 b0 k0 g0 j0
        dsimp only at h1 h2 h3
        have H1 := Lib.hid h1; have H2 := Lib.hid h2; have H3 := Lib.hid h3
        clear h1 h2 h3
        cases Rw5.row HM.out
        cases Rw6.row HT.out
        go_wp2_with fail
        refine (H1.out wr).mono ?_
        rintro ev w3 ⟨rfl, hb⟩
        have HM3 := Lib.hid (HM.out.below hb HM.out.lt)
        have HT3 := Lib.hid (HT.out.below hb HT.out.lt)
        have HW3 := Lib.hid (HW.out.trans (hb.mono HW.out.size))
        clear hb HM HT HW
        cases Rw6.row HT3.out
        go_upto_region 13 with (fail)
        obtain ⟨w4, hw4, b1, b2, b3⟩ : ∃ w4 : World, w4 = Rw6.set w3 (a + 1) (.bool a0) (.bool a1) (.int .u64 (a2 : Int)) (.bool a3) (.bool a4) (.int .u64 (a5 : Int)) ∧ Blk w4 a 35 (msC q0 b0 k0 g0 j0) ∧ Blk w4 (a + 1) 29 (psC a0 a1 a2 a3 a4 a5) ∧ Below w.heap.size w w4 := ⟨_, rfl, Rw6.far HM3.out (by omega) _ _ _ _ _ _, Rw6.blk_set HT3.out _ _ _ _ _ _, Rw6.below_set HW3.out (by omega) _ _ _ _ _ _⟩
        dsimp only [Rw6.set] at hw4
        rw [← hw4]
        have HM := Lib.hid b1; have HT := Lib.hid b2; have HW := Lib.hid b3
        clear hw4 b1 b2 b3 HM3 HT3 HW3
        cases Rw5.row HM.out
        cases Rw6.row HT.out
        go_wp2_with fail
        refine (H2.out w4).mono ?_
        rintro ev w5 ⟨rfl, hb⟩
        have HM5 := Lib.hid (HM.out.below hb HM.out.lt)
        have HT5 := Lib.hid (HT.out.below hb HT.out.lt)
        have HW5 := Lib.hid (HW.out.trans (hb.mono HW.out.size))
        clear hb HM HT HW
        go_upto_region 14 with (fail)
        obtain ⟨w6, hw6, b1, b2, b3⟩ : ∃ w6 : World, w6 = w5.alloc (.cells (psC d0 d1 d2 d3 d4 d5) 29) ∧ Blk w6 a 35 (msC q0 b0 k0 g0 j0) ∧ Blk w6 (a + 1) 29 (psC a0 a1 a2 a3 a4 a5) ∧ Below w.heap.size w w6 := ⟨_, rfl, HM5.out.alloc _, HT5.out.alloc _, HW5.out.alloc HW5.out.size _⟩
        rw [← hw6]
        have HM := Lib.hid b1; have HT := Lib.hid b2; have HW := Lib.hid b3
        clear hw6 b1 b2 b3 HM5 HT5 HW5
        generalize w5.heap.size = u
        cases Rw5.row HM.out
        cases Rw6.row HT.out
        go_wp2_with fail
        refine (H3.out w6).mono ?_
        rintro ev w7 ⟨rfl, hb⟩
        have HW7 := Lib.hid (HW.out.trans (hb.mono HW.out.size))
        clear hb HM HT HW
        go_upto_region 15 with (fail)
        have HW8 := Lib.hid (HW7.out.alloc HW7.out.size (.cells (psC c0 c1 c2 c3 c4 c5) 29))
        generalize w7.alloc (.cells (psC c0 c1 c2 c3 c4 c5) 29) = w8 at HW8 ⊢
        go_wp2_with fail
        refine (awake14 w8).mono ?_
        rintro ev w9 ⟨rfl, hb⟩
        have HW9 := Lib.hid (HW8.out.trans (hb.mono HW8.out.size))
        clear hb
        go_wp2
        go_ret
        exact ⟨rfl, HW9.out⟩
      | true =>
        obtain ⟨⟨a0, a1, a2, a3, a4, a5⟩, ⟨d0, d1, d2, d3, d4, d5⟩, ⟨c0, c1, c2, c3, c4, c5⟩, y, h1, h2, h3⟩ := again_let1 s0 e0 n0 s1 e1 n1 q0 b0 k0 g0 j0
        dsimp only at h1 h2 h3
        have H1 := Lib.hid h1; have H2 := Lib.hid h2; have H3 := Lib.hid h3
        clear h1 h2 h3
        cases Rw5.row HM.out
        cases Rw6.row HT.out
        go_wp2_with fail
        refine (H1.out wr).mono ?_
        rintro ev w3 ⟨rfl, hb⟩
        have HM3 := Lib.hid (HM.out.below hb HM.out.lt)
        have HT3 := Lib.hid (HT.out.below hb HT.out.lt)
        have HW3 := Lib.hid (HW.out.trans (hb.mono HW.out.size))
        clear hb HM HT HW
        cases Rw6.row HT3.out
        go_upto_region 13 with (fail)
        obtain ⟨w4, hw4, b1, b2, b3⟩ : ∃ w4 : World, w4 = Rw6.set w3 (a + 1) (.bool a0) (.bool a1) (.int .u64 (a2 : Int)) (.bool a3) (.bool a4) (.int .u64 (a5 : Int)) ∧ Blk w4 a 35 (msC q0 b0 k0 g0 j0) ∧ Blk w4 (a + 1) 29 (psC a0 a1 a2 a3 a4 a5) ∧ Below w.heap.size w w4 := ⟨_, rfl, Rw6.far HM3.out (by omega) _ _ _ _ _ _, Rw6.blk_set HT3.out _ _ _ _ _ _, Rw6.below_set HW3.out (by omega) _ _ _ _ _ _⟩
        dsimp only [Rw6.set] at hw4
        rw [← hw4]
        have HM := Lib.hid b1; have HT := Lib.hid b2; have HW := Lib.hid b3
        clear hw4 b1 b2 b3 HM3 HT3 HW3
        cases Rw5.row HM.out
        cases Rw6.row HT.out
        go_wp2_with fail
        refine (H2.out w4).mono ?_
        rintro ev w5 ⟨rfl, hb⟩
        have HM5 := Lib.hid (HM.out.below hb HM.out.lt)
        have HT5 := Lib.hid (HT.out.below hb HT.out.lt)
        have HW5 := Lib.hid (HW.out.trans (hb.mono HW.out.size))
        clear hb HM HT HW
        go_upto_region 14 with (fail)
        obtain ⟨w6, hw6, b1, b2, b3⟩ : ∃ w6 : World, w6 = w5.alloc (.cells (psC d0 d1 d2 d3 d4 d5) 29) ∧ Blk w6 a 35 (msC q0 b0 k0 g0 j0) ∧ Blk w6 (a + 1) 29 (psC a0 a1 a2 a3 a4 a5) ∧ Below w.heap.size w w6 := ⟨_, rfl, HM5.out.alloc _, HT5.out.alloc _, HW5.out.alloc HW5.out.size _⟩
        rw [← hw6]
        have HM := Lib.hid b1; have HT := Lib.hid b2; have HW := Lib.hid b3
        clear hw6 b1 b2 b3 HM5 HT5 HW5
        generalize w5.heap.size = u
        cases Rw5.row HM.out
        cases Rw6.row HT.out
        go_wp2_with fail
        refine (H3.out w6).mono ?_
        rintro ev w7 ⟨rfl, hb⟩
        have HW7 := Lib.hid (HW.out.trans (hb.mono HW.out.size))
        clear hb HM HT HW
        go_upto_region 15 with (fail)
        have HW8 := Lib.hid (HW7.out.alloc HW7.out.size (.cells (psC c0 c1 c2 c3 c4 c5) 29))
        generalize w7.alloc (.cells (psC c0 c1 c2 c3 c4 c5) 29) = w8 at HW8 ⊢
        go_wp2_with fail
        refine (awake14 w8).mono ?_
        rintro ev w9 ⟨rfl, hb⟩
        have HW9 := Lib.hid (HW8.out.trans (hb.mono HW8.out.size))
        clear hb
        go_wp2
        go_ret
        exact ⟨rfl, HW9.out⟩
end Go.Proofs.Ythhiagdncjpdcaa.Fh
