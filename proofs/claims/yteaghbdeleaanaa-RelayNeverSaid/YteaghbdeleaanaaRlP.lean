/-
  Relay: the walk of RelayNever.
-/
import Derived.Test.YteaghbdeleaanaaRlB
import Derived.Test.YteaghbdeleaanaaCmP
namespace Go.Proofs.Yteaghbdeleaanaa.Rl
open Go.RowKit Go.Proofs.Yteaghbdeleaanaa.Mm Go.Proofs.Yteaghbdeleaanaa.Fl Go.Proofs.Yteaghbdeleaanaa.Tg Go.Proofs.Yteaghbdeleaanaa.Fp Go.Proofs.Yteaghbdeleaanaa.Fd Go.Proofs.Yteaghbdeleaanaa.Op Go.Proofs.Yteaghbdeleaanaa.Lw
set_option linter.unusedVariables false
set_option linter.unusedSimpArgs false

abbrev cmA (la : Nat) (i : Int) (we ea : Bool) (d s p : Nat) (dr : Bool) (v t : Nat) (b : ByteArray) (fl : Bool) : Array Value := #[.int .u16 (la : Int), .int .i64 i, .bool we, .bool ea, .int .u64 (d : Int), .int .u64 (s : Int), .int .u8 (p : Int), .bool dr, .int .u16 (v : Int), .int .u16 (t : Int), .string b, .bool fl]
abbrev zCm : Array Value := cmA 0 0 false false 0 0 0 false 0 0 ByteArray.empty false
theorem info_ca (la : Nat) (i : Int) (we ea : Bool) (d s p : Nat) (dr : Bool) (v t : Nat) (b : ByteArray) (fl : Bool) : (Try.prog.info? 29).map (·.size) = some (cmA la i we ea d s p dr v t b fl).size := by kernel_rfl
theorem one_ca (la : Nat) (i : Int) (we ea : Bool) (d s p : Nat) (dr : Bool) (v t : Nat) (b : ByteArray) (fl : Bool) : (cmA la i we ea d s p dr v t b fl).all (·.oneCell') = true := by kernel_rfl
theorem range_ca {w : World} {x : Nat} {ty : TypeId} {la : Nat} {i : Int} {we ea : Bool} {d s p : Nat} {dr : Bool} {v t : Nat} {b : ByteArray} {fl : Bool} (h : Blk w x ty (cmA la i we ea d s p dr v t b fl)) : w.rangeAt x 4 (frC d s p dr v t b).toList := World.rangeAt_of_block h 4 7
theorem info_fl (d s p : Nat) (dr : Bool) (v t : Nat) (b : ByteArray) : (Try.prog.info? 27).map (·.size) = some (frC d s p dr v t b).toList.length := by kernel_rfl
theorem blk_keep {a b : World} {g : Nat} {t : TypeId} {cs : Array Value} (h : Blk a g t cs) (hb : Below a.heap.size a b) : Blk b g t cs := h.below hb h.lt

set_option maxRecDepth 100000 in
set_option maxHeartbeats 8000000 in
theorem never_walk (aw : ∀ w, Calls Try.prog 5 #[] w fun e w' => e = .returned (.bool true) ∧ Below w.heap.size w w') (ps : List Cm) (A : Option Addr) (c : Nat) (la : Nat) (bi : Int) (bw be : Bool) (bd bs bp : Nat) (br : Bool) (bv bt : Nat) (bb : ByteArray) (bf : Bool) (w : World)
    (hm : ps.length ≤ maxLen) (hA : Rd w w.heap.size A (comesCells ps)) (hB : ∀ q ∈ ps, okM q) (hs : bs < 18446744073709551616) :
    Calls Try.prog 3 #[.slice A ps.length c, .agg (cmA la bi bw be bd bs bp br bv bt bb bf)] w (Law1 w) := by
  unfold maxLen at hm
  have HA := Lib.hid hA; have HB := Lib.hid hB; have HS := Lib.hid hs; have AW := Lib.hid aw
  clear hA hB hs aw
  have HQ0 := Lib.hid (Blk.fresh w 29 (cmA la bi bw be bd bs bp br bv bt bb bf))
  have HW0 := Lib.hid ((Below.refl w.heap.size w).alloc (Nat.le_refl _) (.cells (cmA la bi bw be bd bs bp br bv bt bb bf) 29))
  by_cases h40 : 40 < ps.length
  · have hl2 : decide ((40 : Int) < (ps.length : Int)) = true := decide_eq_true (by omega)
    go_enter Try.func3, Try.ntmps3
    go_upto_region 1 with (fail)
    generalize w.alloc (.cells (cmA la bi bw be bd bs bp br bv bt bb bf) 29) = w0 at HQ0 HW0 ⊢
    go_wp2_with fail
    refine (new_ok 64 1000 w0 (by decide) (by decide)).mono ?_
    rintro e w1 ⟨b1, rfl, hmp, hb⟩
    have HW1 := Lib.hid (HW0.out.trans (hb.mono HW0.out.size))
    clear hb hmp
    go_wp2_with fail
    refine (AW.out _).mono ?_
    rintro e w2 ⟨rfl, hb⟩
    have HW2 := Lib.hid ((HW1.out.alloc HW1.out.size _).trans (hb.mono (Nat.le_trans HW1.out.size (by simp))))
    clear hb
    go_wp2
    go_ret
    exact ⟨rfl, HW2.out⟩
  have hl2 : decide ((40 : Int) < (ps.length : Int)) = false := decide_eq_false (by omega)
  go_enter Try.func3, Try.ntmps3
  go_upto_region 1 with (fail)
  generalize w.alloc (.cells (cmA la bi bw be bd bs bp br bv bt bb bf) 29) = w0 at HQ0 HW0 ⊢
  go_wp2_with fail
  refine (new_ok 64 1000 w0 (by decide) (by decide)).mono ?_
  rintro e w1 ⟨b1, rfl, hmp, hb⟩
  have HQ1 := Lib.hid (blk_keep HQ0.out hb)
  have HM1 := Lib.hid (hmp.alloc (.cells (tbC 64 1000 (some b1)) 32))
  have HW1 := Lib.hid (HW0.out.trans (hb.mono HW0.out.size))
  have HT2 := Lib.hid (Blk.fresh w1 32 (tbC 64 1000 (some b1)))
  have HQ2 := Lib.hid (HQ1.out.alloc (.cells (tbC 64 1000 (some b1)) 32))
  have HW2 := Lib.hid (HW1.out.alloc HW1.out.size (.cells (tbC 64 1000 (some b1)) 32))
  clear hb hmp
  obtain ⟨g, hg⟩ : ∃ g, g = w1.heap.size := ⟨_, rfl⟩
  have LG : w.heap.size < g := by rw [hg]; exact HQ1.out.lt
  go_upto_region 2 with (fail)
  rw [← hg] at HT2 ⊢
  clear hg HQ1 HW1 HQ0 HW0
  generalize w1.alloc (.cells (tbC 64 1000 (some b1)) 32) = w2 at HT2 HM1 HQ2 HW2 ⊢
  go_wp2_with fail
  go_loopw [7, 41] (fun nw i wr => ∃ (k n : Nat) (b : Nat) (l : List Fd.Fr), k ≤ ps.length ∧ i = .int .i64 k ∧ nw = .int .i64 n ∧ n ≤ 20 * k ∧ Iv 64 n l ∧ Mp wr b l ∧ Blk wr g 32 (tbC 64 1000 (some b)) ∧ Blk wr w.heap.size 29 (cmA la bi bw be bd bs bp br bv bt bb bf) ∧ Below w.heap.size w wr) (fun _ i _ => ps.length - (intOf i).toNat)
  case atStart => exact ⟨0, 0, b1, [], Nat.zero_le _, rfl, rfl, Nat.le_refl _, Iv.nil (by decide), HM1.out, HT2.out, HQ2.out, HW2.out⟩
  case round =>
    obtain ⟨k, n, b, l, hk, rfl, rfl, hn, hI, hM, hT, hQ, hW⟩ := hrel
    clear HM1 HT2 HQ2 HW2
    have HI := Lib.hid hI; have HM := Lib.hid hM; have HT := Lib.hid hT; have HQ := Lib.hid hQ; have HW := Lib.hid hW
    clear hI hM hT hQ hW
    by_cases hlt : k < ps.length
    · obtain ⟨ad, hAd, hbl, hcs⟩ := rd_come (HA.out.below HW.out) hlt
      subst hAd
      have hq := HB.out _ (List.getElem_mem hlt)
      obtain ⟨qq, hqe⟩ : ∃ qq, qq = ps[k] := ⟨_, rfl⟩
      rw [← hqe] at hcs hq
      clear hqe
      obtain ⟨lt, xi, we, ea, d, s, p, dr, v, t, bd', fl⟩ := qq
      obtain ⟨q1, q2, q3, q4, q5, q6, q7, q8⟩ := hq
      dsimp only at q1 q2 q3 q4 q5 q6 q7 q8
      have HCS : Hid (∀ j u, (cmA lt xi we ea d s p dr v t bd' fl).toList[j]? = some u → wr.cell? ((ad.add (k * 12)).add j) = some u) := Lib.hid hcs
      clear hcs
      have hi2 : 0 ≤ (k : Int) ∧ (k : Int) < (ps.length : Int) := by omega
      go_upto_region 8 with (first | (refine wpList_load_any rfl 29 (.tmp 43) rfl (ad.add (k * 12)) rfl (cmA lt xi we ea d s p dr v t bd' fl).toList _ HCS.out Try.underlying29 rfl (info_ca _ _ _ _ _ _ _ _ _ _ _ _) ?_) | (refine wpList_store_row rfl 29 _ _ rfl _ (cmA lt xi we ea d s p dr v t bd' fl) rfl rfl _ _ (Blk.fresh wr 29 zCm) (info_ca _ _ _ _ _ _ _ _ _ _ _ _) rfl (one_ca _ _ _ _ _ _ _ _ _ _ _ _) ?_))
      obtain ⟨x, hx⟩ : ∃ x, x = wr.heap.size := ⟨_, rfl⟩
      have LX : g < x := by rw [hx]; exact HT.out.lt
      have LB : b < x := by rw [hx]; exact HM.out.lt
      obtain ⟨w3, hw3, f1, f2, f3, f4, f5⟩ : ∃ w3 : World, w3 = (wr.alloc (.cells #[.int .u16 0, .int .i64 0, .bool false, .bool false, .int .u64 0, .int .u64 0, .int .u8 0, .bool false, .int .u16 0, .int .u16 0, .string ⟨#[]⟩, .bool false] 29)).setRow wr.heap.size (cmA lt xi we ea d s p dr v t bd' fl) ∧ Blk w3 wr.heap.size 29 (cmA lt xi we ea d s p dr v t bd' fl) ∧ Below wr.heap.size wr w3 ∧ Mp w3 b l ∧ Blk w3 g 32 (tbC 64 1000 (some b)) ∧ Blk w3 w.heap.size 29 (cmA la bi bw be bd bs bp br bv bt bb bf) :=
        have hb := below_put ((Below.refl wr.heap.size wr).alloc (Nat.le_refl _) (.cells #[.int .u16 0, .int .i64 0, .bool false, .bool false, .int .u64 0, .int .u64 0, .int .u8 0, .bool false, .int .u16 0, .int .u16 0, .string ⟨#[]⟩, .bool false] 29)) (Nat.le_refl _) (cmA lt xi we ea d s p dr v t bd' fl)
        ⟨_, rfl, blk_put (Blk.fresh wr 29 _) _, hb, HM.out.on hb, blk_keep HT.out hb, blk_keep HQ.out hb⟩
      rw [← hw3]
      rw [← hx] at f1 ⊢
      have HX3 := Lib.hid f1; have HM3 := Lib.hid f3; have HT3 := Lib.hid f4; have HQ3 := Lib.hid f5; have HW3 := Lib.hid (HW.out.trans (f2.mono HW.out.size))
      clear hw3 hx f1 f2 f3 f4 f5 HM HT HQ HW HCS
      obtain ⟨r, hr⟩ : ∃ r, r = lt % 20 := ⟨_, rfl⟩
      have hr20 : r < 20 := by omega
      have e1 : (lt : Int).tmod 20 = (r : Int) := by rw [Int.tmod_eq_emod_of_nonneg (by omega)]; omega
      have e2 : IntKind.u16.wrap (r : Int) = (r : Int) := IntWalk.u16_in _ ⟨by omega, by omega⟩
      have e3 : IntKind.i64.wrap (r : Int) = (r : Int) := IntWalk.i64_in _ ⟨by omega, by omega⟩
      obtain ⟨n', hn'⟩ : ∃ n', n' = n + r := ⟨_, rfl⟩
      have e4 : IntKind.i64.wrap ((n : Int) + (r : Int)) = (n' : Int) := by rw [hn', IntKind.wrap_i64]; omega
      have hnn : n' ≤ 20 * (k + 1) := by omega
      have hle : (n : Int) ≤ (n' : Int) := by omega
      have HI' := Lib.hid (HI.out.later hle)
      have hn40 : (n' : Int) ≤ 1099511627776 := by omega
      clear hr hn' hle HI hn
      have HR20 := Lib.hid hr20
      clear hr20
      have c0 : w3.cell? ⟨x, 0, none⟩ = some (.int .u16 (lt : Int)) := HX3.out.cell 0
      have c1 : w3.cell? ⟨x, 1, none⟩ = some (.int .i64 xi) := HX3.out.cell 1
      have c2 : w3.cell? ⟨x, 2, none⟩ = some (.bool we) := HX3.out.cell 2
      have c3 : w3.cell? ⟨x, 3, none⟩ = some (.bool ea) := HX3.out.cell 3
      cases Rw3.row HT3.out
      go_wp2_with (refine wpList_load_mid rfl 27 (.tmp 61) rfl x 4 rfl (frC d s p dr v t bd').toList _ (range_ca HX3.out) Try.underlying27 rfl (info_fl _ _ _ _ _ _ _) ?_)
      obtain ⟨f, m, l', L, al, g1, g2, g3, g4, g5, g6, g7⟩ := go_any (x := we) (y := ea) (i := xi) (d := d) (s := s) (v := v) p t dr bd' HI'.out (by omega) hn40 ⟨q6, q4⟩ ⟨q6, q3⟩
      have G1 := Lib.hid g1; have G2 := Lib.hid g2; have G3 := Lib.hid g3; have G5 := Lib.hid g5; have G6 := Lib.hid g6
      refine (g7 w3 b HM3.out).mono ?_
      clear g1 g2 g3 g5 g6 g7
      rintro e w4 ⟨b4, A4, c4, rfl, hm4, hr4, hb⟩
      obtain ⟨y, hy⟩ : ∃ y, y = w4.heap.size := ⟨_, rfl⟩
      have hb' := hb.alloc hb.size (.cells (tbC 64 1000 (some b4)) 32)
      obtain ⟨w5, hw5⟩ : ∃ w5, w5 = w4.alloc (.cells (tbC 64 1000 (some b4)) 32) := ⟨_, rfl⟩
      have hyx := hb.size
      have LY : x < y := by have := HX3.out.lt; omega
      have hY : Blk w5 y 32 (tbC 64 1000 (some b4)) := by rw [hw5, hy]; exact Blk.fresh w4 32 (tbC 64 1000 (some b4))
      have hM5 : Mp w5 b4 l' := by rw [hw5]; exact hm4.alloc _
      have hR5 : Rd w5 w5.heap.size A4 (ints L) := by rw [hw5]; exact (hr4.below ((Below.refl w4.heap.size w4).alloc (Nat.le_refl _) _)).more (by simp)
      rw [← hw5] at hb'
      have HY5 := Lib.hid hY; have HM5 := Lib.hid hM5; have HR5 := Lib.hid hR5
      have HX5 := Lib.hid (blk_keep HX3.out hb'); have HT5 := Lib.hid (blk_keep HT3.out hb'); have HQ5 := Lib.hid (blk_keep HQ3.out hb'); have HW5 := Lib.hid (HW3.out.trans (hb'.mono HW3.out.size))
      clear hY hM5 hR5 hb hb' hm4 hr4 hyx HX3 HM3 HT3 HQ3 HW3 c0 c1 c2 c3 HI' e1 e2 e3 e4
      go_upto_region 10 with (fail)
      rw [← hw5, ← hy]
      clear hw5 hy
      go_wp2_with fail
      go_loop [70] (fun i => ∃ j : Nat, j ≤ m ∧ i = .int .i64 j) (fun i => m - (intOf i).toNat)
      case atStart => exact ⟨0, Nat.zero_le _, rfl⟩
      case round =>
        obtain ⟨j, hj, rfl⟩ := hrel
        by_cases hjm : j < m
        · have hjl : j < L.length := by rw [← G3.out]; exact hjm
          obtain ⟨ad', rfl, hbl', hcell⟩ := HR5.out (by rw [length_ints]; omega)
          have k0 := hcell j _ (get_ints L j hjl)
          obtain ⟨hf0, hda⟩ := G5.out _ (List.getElem_mem hjl)
          clear hcell
          generalize L[j] = o at k0 hda
          obtain ⟨ho, hways⟩ := da_facts hda
          have hf1 : ((f : Int) != 0) = false := by rw [hf0]; rfl
          have hlt2 : 0 ≤ (j : Int) ∧ (j : Int) < (m : Int) := by omega
          have c1 : w5.cell? ⟨x, 1, none⟩ = some (.int .i64 xi) := HX5.out.cell 1
          have c2 : w5.cell? ⟨x, 2, none⟩ = some (.bool we) := HX5.out.cell 2
          have c3 : w5.cell? ⟨x, 3, none⟩ = some (.bool ea) := HX5.out.cell 3
          clear hda hf0 hjl hbl'
          rcases hways with ⟨rfl, rfl⟩ | ⟨rfl, rfl⟩ | rfl
          · go_wp2
            go_round
            case rel => exact ⟨j + 1, by omega, by go_num⟩
            case measure => simp [intOf]; omega
          · go_wp2
            go_round
            case rel => exact ⟨j + 1, by omega, by go_num⟩
            case measure => simp [intOf]; omega
          · go_wp2
            go_round
            case rel => exact ⟨j + 1, by omega, by go_num⟩
            case measure => simp [intOf]; omega
        · have hd2 : decide ((j : Int) < (m : Int)) = false := decide_eq_false (by omega)
          cases Rw3.row HT5.out
          cases Rw3.row HY5.out
          go_upto_region 17 with (fail)
          obtain ⟨w6, hw6⟩ : ∃ w6, w6 = Rw3.set w5 g (.int .i64 64) (.int .i64 1000) (.map (some b4)) := ⟨_, rfl⟩
          have hT6 : Blk w6 g 32 (tbC 64 1000 (some b4)) := by rw [hw6]; exact Rw3.blk_set HT5.out _ _ _
          have hM6 : Mp w6 b4 l' := by rw [hw6]; exact HM5.out.far (mp_ne HM5.out HT5.out) _ _ _
          have hX6 : Blk w6 x 29 (cmA lt xi we ea d s p dr v t bd' fl) := by rw [hw6]; exact Rw3.far HX5.out (by omega) _ _ _
          have hQ6 : Blk w6 w.heap.size 29 (cmA la bi bw be bd bs bp br bv bt bb bf) := by rw [hw6]; exact Rw3.far HQ5.out (by omega) _ _ _
          have hW6 : Below w.heap.size w w6 := by rw [hw6]; exact Rw3.below_set HW5.out (by omega) _ _ _
          dsimp only [Rw3.set] at hw6
          rw [← hw6]
          have HT6 := Lib.hid hT6; have HM6 := Lib.hid hM6; have HX6 := Lib.hid hX6; have HQ6 := Lib.hid hQ6; have HW6 := Lib.hid hW6
          clear hw6 hT6 hM6 hX6 hQ6 hW6 HT5 HM5 HX5 HQ5 HW5 HY5
          by_cases hf0 : f = 0
          · have hf1 : ((f : Int) != 0) = false := by rw [hf0]; rfl
            obtain ⟨pt, kn, hp⟩ : ∃ pt kn, lookR l' v s n' 1000 = (pt, kn) := ⟨_, _, rfl⟩
            have HP := Lib.hid hp
            clear hp
            have c5 : w6.cell? ⟨x, 5, none⟩ = some (.int .u64 (s : Int)) := HX6.out.cell 5
            have c8 : w6.cell? ⟨x, 8, none⟩ = some (.int .u16 (v : Int)) := HX6.out.cell 8
            cases Rw3.row HT6.out
            go_wp2_with fail
            refine (look_any HM6.out G2.out.keys ⟨q6, q4⟩ (G2.out.big hn40) (by decide) HP.out).mono ?_
            rintro e w7 ⟨rfl, hb⟩
            have HT7 := Lib.hid (blk_keep HT6.out hb); have HX7 := Lib.hid (blk_keep HX6.out hb); have HQ7 := Lib.hid (blk_keep HQ6.out hb); have HM7 := Lib.hid (HM6.out.on hb); have HW7 := Lib.hid (HW6.out.trans (hb.mono HW6.out.size))
            clear hb c5 c8 HT6 HX6 HQ6 HM6 HW6
            go_upto_region 20 with (refine wpList_load_mid rfl 27 (.tmp 122) rfl w.heap.size 4 rfl (frC bd bs bp br bv bt bb).toList _ (range_ca HQ7.out) Try.underlying27 rfl (info_fl _ _ _ _ _ _ _) ?_)
            obtain ⟨G, hG⟩ : ∃ G, G = w7.heap.size := ⟨_, rfl⟩
            have LX7 : x < G := by rw [hG]; exact HX7.out.lt
            have LM7 : b4 < G := by rw [hG]; exact HM7.out.lt
            have LG7 : g < G := by omega
            have LW7 : w.heap.size < G := by omega
            have hb := (Below.refl w7.heap.size w7).alloc (Nat.le_refl _) (.cells (frC bd bs bp br bv bt bb) 27)
            have HG8 := Lib.hid (Blk.fresh w7 27 (frC bd bs bp br bv bt bb))
            have HT8 := Lib.hid (blk_keep HT7.out hb); have HX8 := Lib.hid (blk_keep HX7.out hb); have HQ8 := Lib.hid (blk_keep HQ7.out hb); have HM8 := Lib.hid (HM7.out.on hb); have HW8 := Lib.hid (HW7.out.trans (hb.mono HW7.out.size))
            rw [← hG] at HG8 ⊢
            clear hb hG HT7 HX7 HQ7 HM7 HW7
            generalize w7.alloc (.cells (frC bd bs bp br bv bt bb) 27) = w8 at HG8 HT8 HX8 HQ8 HM8 HW8 ⊢
            have c5 : w8.cell? ⟨x, 5, none⟩ = some (.int .u64 (s : Int)) := HX8.out.cell 5
            have c8 : w8.cell? ⟨x, 8, none⟩ = some (.int .u16 (v : Int)) := HX8.out.cell 8
            have d0 : w8.cell? ⟨G, 0, none⟩ = some (.int .u64 (bd : Int)) := HG8.out.cell 0
            have d4 : w8.cell? ⟨G, 4, none⟩ = some (.int .u16 (bv : Int)) := HG8.out.cell 4
            have y0 : w8.frozen? ⟨G, 0, none⟩ = false := HG8.out.frozen 0
            have y4 : w8.frozen? ⟨G, 4, none⟩ = false := HG8.out.frozen 4
            go_region
            obtain ⟨w9, hw9⟩ : ∃ w9, w9 = ((w8.setCell ⟨G, 0, none⟩ (.int .u64 (s : Int))).setCell ⟨G, 4, none⟩ (.int .u16 (v : Int))).drew := ⟨_, rfl⟩
            have hb : Below G w8 w9 := by rw [hw9]; exact (((Below.refl G w8).setCell (p := ⟨G, 0, none⟩) (Nat.le_refl _) _).setCell (p := ⟨G, 4, none⟩) (Nat.le_refl _) _).drew
            have hG9 : Blk w9 G 27 (frC s bs bp br v bt bb) := by
              rw [hw9]
              have h0 : Blk _ G 27 (frC s bs bp br bv bt bb) := HG8.out.put 0 (.int .u64 (s : Int))
              have h1 : Blk _ G 27 (frC s bs bp br v bt bb) := h0.put 4 (.int .u16 (v : Int))
              exact h1.drew
            rw [← hw9]
            have HG9 := Lib.hid hG9
            have HT9 := Lib.hid (HT8.out.below hb LG7); have HQ9 := Lib.hid (HQ8.out.below hb LW7); have HM9 := Lib.hid (HM8.out.below hb LM7); have HW9 := Lib.hid (HW8.out.trans (hb.mono (Nat.le_of_lt LW7)))
            clear hw9 hb hG9 c5 c8 d0 d4 y0 y4 HG8 HT8 HX8 HQ8 HM8 HW8
            have c1 : w9.cell? ⟨w.heap.size, 1, none⟩ = some (.int .i64 bi) := HQ9.out.cell 1
            obtain ⟨f2, m2, l2, L2, al2, g1, g2, g3, g4', g5, g6, g7⟩ := go_any (x := false) (y := false) (i := bi) (d := s) (s := bs) (v := v) bp bt br bb G2.out (by omega) hn40 ⟨q6, HS.out⟩ ⟨q6, q4⟩
            have R1 := Lib.hid g1; have R3 := Lib.hid g3; have R6 := Lib.hid g6; have R7 := Lib.hid g7
            clear g1 g2 g3 g5 g6 g7
            cases Rw3.row HT9.out
            go_wp2_with (refine wpList_loadG rfl 27 _ rfl G rfl _ (frC s bs bp br v bt bb) _ _ HG9.out Try.underlying27 rfl (info_fr _ _ _ _ _ _ _) ?_)
            refine (R7.out w9 b4 HM9.out).mono ?_
            rintro e w10 ⟨b10, A10, c10, rfl, hm10, hr10, hb⟩
            have hb' := hb.alloc hb.size (.cells (tbC 64 1000 (some b10)) 32)
            obtain ⟨wa, hwa⟩ : ∃ wa, wa = w10.alloc (.cells (tbC 64 1000 (some b10)) 32) := ⟨_, rfl⟩
            have hRa : Rd wa w10.heap.size A10 (ints L2) := by rw [hwa]; exact hr10.below ((Below.refl w10.heap.size w10).alloc (Nat.le_refl _) _)
            rw [← hwa] at hb'
            have HRa := Lib.hid hRa
            have HGa := Lib.hid (blk_keep HG9.out hb'); have HTa := Lib.hid (blk_keep HT9.out hb'); have HQa := Lib.hid (blk_keep HQ9.out hb'); have HMa := Lib.hid (HM9.out.on hb'); have HWa := Lib.hid (HW9.out.trans (hb'.mono HW9.out.size))
            clear hb hb' hm10 hr10 hRa c1 HG9 HT9 HQ9 HM9 HW9 R7
            go_upto_region 22 with (fail)
            rw [← hwa]
            clear hwa
            have c1 : wa.cell? ⟨w.heap.size, 1, none⟩ = some (.int .i64 bi) := HQa.out.cell 1
            have d0 : wa.cell? ⟨G, 0, none⟩ = some (.int .u64 (s : Int)) := HGa.out.cell 0
            have d1 : wa.cell? ⟨G, 1, none⟩ = some (.int .u64 (bs : Int)) := HGa.out.cell 1
            have HS4 := Lib.hid q4
            by_cases h20 : f2 = 0
            · subst h20
              obtain ⟨rfl, qq2, kk2, hq2, hL2⟩ := R6.out rfl
              obtain ⟨gr, hgr⟩ : ∃ gr, Mc.groupB s = gr := ⟨_, rfl⟩
              rw [hgr] at hL2
              have hways := back_ways G2.out R1.out HP.out hq2 hgr hL2
              have HGR := Lib.hid hgr
              clear hq2 hL2 hgr R1 R6
              rcases hways with rfl | ⟨rfl, rfl⟩ | ⟨rfl, hne, rfl, rfl⟩ | ⟨rfl, hne, rfl, rfl, rfl, hne2⟩ | ⟨rfl, hne, rfl, rfl, rfl, rfl⟩
              · go_wp2
                go_roundw
                case rel => exact ⟨k + 1, n', b4, l', by omega, by go_num, rfl, hnn, G2.out, HMa.out, HTa.out, HQa.out, HWa.out⟩
                case measure => simp [intOf]; omega
              · have hss : ((bs : Int) != (bs : Int)) = false := by simp
                go_wp2
                go_roundw
                case rel => exact ⟨k + 1, n', b4, l', by omega, by go_num, rfl, hnn, G2.out, HMa.out, HTa.out, HQa.out, HWa.out⟩
                case measure => simp [intOf]; omega
              · have hn1 : ¬ (bs : Int) = (s : Int) := by omega
                have hn2 : ((bs : Int) != (s : Int)) = true := by simpa using hn1
                go_wp2_with (go_at_call 8; refine (Mc.group_b _ s _ HGR.out HS4.out).mono ?_; rintro e wg ⟨rfl, rfl⟩)
                go_roundw
                case rel => exact ⟨k + 1, n', b4, l', by omega, by go_num, rfl, hnn, G2.out, HMa.out, HTa.out, HQa.out, HWa.out⟩
                case measure => simp [intOf]; omega
              · have hn1 : ¬ (bs : Int) = (s : Int) := by omega
                have hn2 : ((bs : Int) != (s : Int)) = true := by simpa using hn1
                obtain rfl : 1 = m2 := R3.out.symm
                obtain ⟨ad2, rfl, hbl2, hcell⟩ := HRa.out (by simp [ints])
                have k0 := hcell 0 _ rfl
                rw [show ad2.add 0 = ad2 from rfl] at k0
                have hp1 : (pt != pt) = false := by simp
                have hp2 : (pt == bi) = false := by simpa using hne2
                clear hcell
                go_wp2_with (go_at_call 8; refine (Mc.group_b _ s _ HGR.out HS4.out).mono ?_; rintro e wg ⟨rfl, rfl⟩)
                go_roundw
                case rel => exact ⟨k + 1, n', b4, l', by omega, by go_num, rfl, hnn, G2.out, HMa.out, HTa.out, HQa.out, HWa.out⟩
                case measure => simp [intOf]; omega
              · have hn1 : ¬ (bs : Int) = (s : Int) := by omega
                have hn2 : ((bs : Int) != (s : Int)) = true := by simpa using hn1
                obtain rfl : 0 = m2 := R3.out.symm
                have hp2 : (pt == pt) = true := by simp
                go_wp2_with (go_at_call 8; refine (Mc.group_b _ s _ HGR.out HS4.out).mono ?_; rintro e wg ⟨rfl, rfl⟩)
                go_roundw
                case rel => exact ⟨k + 1, n', b4, l', by omega, by go_num, rfl, hnn, G2.out, HMa.out, HTa.out, HQa.out, HWa.out⟩
                case measure => simp [intOf]; omega
            · have hf2 : ((f2 : Int) == 0) = false := by simp only [beq_eq_false_iff_ne, ne_eq]; omega
              go_wp2
              go_roundw
              case rel => exact ⟨k + 1, n', b4, l', by omega, by go_num, rfl, hnn, G2.out, HMa.out, HTa.out, HQa.out, HWa.out⟩
              case measure => simp [intOf]; omega
          · have hf1 : ((f : Int) != 0) = true := by simp only [bne_iff_ne, ne_eq]; omega
            go_wp2
            go_roundw
            case rel => exact ⟨k + 1, n', b4, l', by omega, by go_num, rfl, hnn, G2.out, HM6.out, HT6.out, HQ6.out, HW6.out⟩
            case measure => simp [intOf]; omega
    · have ek : k = ps.length := by omega
      have hd : decide ((k : Int) < (ps.length : Int)) = false := decide_eq_false (by omega)
      clear ek
      go_wp2_with fail
      refine (AW.out _).mono ?_
      rintro e w3 ⟨rfl, hb⟩
      have HW3 := Lib.hid (HW.out.trans (hb.mono HW.out.size))
      clear hb
      go_wp2
      go_ret
      exact ⟨rfl, HW3.out⟩
end Go.Proofs.Yteaghbdeleaanaa.Rl
