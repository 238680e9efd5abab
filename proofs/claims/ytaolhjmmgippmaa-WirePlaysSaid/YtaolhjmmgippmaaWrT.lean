/-
  The statement WireTwins: its walk.
-/
import Derived.Test.YtaolhjmmgippmaaWrD
import Derived.Test.YtaolhjmmgippmaaStO
import Derived.Deep.CutBlock
namespace Go.Proofs.Ytaolhjmmgippmaa.Wr
open Go.RowKit Go.Proofs.Ytaolhjmmgippmaa.Mm Go.Proofs.Ytaolhjmmgippmaa.Tg Go.Proofs.Ytaolhjmmgippmaa.Lw Go.Proofs.Ytaolhjmmgippmaa.Op
set_option linter.unusedSimpArgs false
set_option linter.unusedVariables false

theorem Sl.drew {w : World} {A : Option Addr} {n c : Nat} {L : List ByteArray} (h : Sl w A n c L) : Sl w.drew A n c L := ⟨h.rd, h.len, h.cap, h.max, h.nil⟩
theorem push_room {L : List ByteArray} {s : ByteArray} (h : L.length < 256) : pushR 256 true L s = (L ++ [s], true) := by
  unfold pushR
  rw [if_pos ⟨rfl, by omega⟩]
theorem pop_next (L : List ByteArray) (k : Nat) (hk : k < L.length) (R : List ByteArray) : popR (L.drop k ++ R) = (L.drop (k + 1) ++ R, L[k], true) := by
  rw [List.drop_eq_getElem_cons hk]
  rfl

set_option maxRecDepth 100000 in
set_option maxHeartbeats 8000000 in
theorem twins_walk (L : List ByteArray) (A : Option Addr) (c : Nat) (a b : ByteArray) (w : World)
    (hm : L.length ≤ maxLen) (hA : Rd w w.heap.size A (strs L)) (hB : ∀ s ∈ L, s.size ≤ maxLen) (ha : a.size ≤ maxLen) (hb : b.size ≤ maxLen) :
    Calls Try.prog 4 #[.slice A L.length c, .string a, .string b] w (Law1 w) := by
  unfold maxLen at hm
  have HA := Lib.hid hA; have HB := Lib.hid hB
  clear hA hB ha hb
  by_cases h80 : 200 < L.length
  · have hl2 : decide ((200 : Int) < (L.length : Int)) = true := decide_eq_true (by omega)
    go_enter Try.func4, Try.ntmps4
    go_wp2_with fail
    refine (new_ok 256 w (by omega) (by omega)).mono ?_
    rintro e w1 ⟨rfl, hb⟩
    have HW := Lib.hid (hb.alloc hb.size (.cells (wrC 256 true none 0 0) 25)); clear hb
    go_wp2_with fail
    refine (awake21 _).mono ?_
    rintro e w2 ⟨rfl, hb⟩
    have HW2 := Lib.hid (HW.out.trans (hb.mono HW.out.size)); clear hb
    go_wp2
    go_ret
    exact ⟨rfl, HW2.out⟩
  have hl2 : decide ((200 : Int) < (L.length : Int)) = false := decide_eq_false (by omega)
  go_enter Try.func4, Try.ntmps4
  go_wp2_with fail
  refine (new_ok 256 w (by omega) (by omega)).mono ?_
  rintro e w1 ⟨rfl, hb⟩
  go_upto_region 4 with (fail)
  obtain ⟨g, hg⟩ : ∃ g, g = w1.heap.size := ⟨_, rfl⟩
  have L0 : w.heap.size ≤ g := by rw [hg]; exact hb.size
  have HT := Lib.hid (Blk.fresh w1 25 (wrC 256 true none 0 0))
  have HW := Lib.hid (hb.alloc hb.size (.cells (wrC 256 true none 0 0) 25))
  rw [← hg] at HT ⊢
  clear hb hg
  generalize w1.alloc (.cells (wrC 256 true none 0 0) 25) = w2 at HT HW ⊢
  go_wp2_with fail
  go_loopw [47] (fun i wr => ∃ (k : Nat) (A1 : Option Addr) (n1 c1 : Nat), k ≤ L.length ∧ i = .int .i64 k ∧ Blk wr g 25 (wrC 256 true A1 n1 c1) ∧ Sl wr A1 n1 c1 (L.take k) ∧ Below w.heap.size w wr) (fun i _ => L.length - (intOf i).toNat)
  case atStart => exact ⟨0, none, 0, 0, Nat.zero_le _, rfl, HT.out, Sl.noneS _, HW.out⟩
  case round =>
    obtain ⟨k, A1, n1, c1, hk, rfl, hT, hS, hW⟩ := hrel
    clear HT HW
    have HT := Lib.hid hT; have HS := Lib.hid hS; have HW := Lib.hid hW
    clear hT hS hW
    by_cases hlt : k < L.length
    · obtain ⟨ad, hAd, hbl, hcl⟩ := (HA.out.below HW.out) (by rw [length_strs]; omega)
      have c0 := hcl k _ (get_strs L k hlt)
      clear hcl
      subst hAd
      have hq := HB.out _ (List.getElem_mem hlt)
      unfold maxLen at hq
      have htk : L.take (k + 1) = L.take k ++ [L[k]] := List.take_succ_eq_append_getElem hlt
      obtain ⟨s, hs⟩ : ∃ s, s = L[k] := ⟨_, rfl⟩
      rw [← hs] at c0 hq htk
      clear hs
      have HK := Lib.hid htk; clear htk
      have hi2 : 0 ≤ (k : Int) ∧ (k : Int) < (L.length : Int) := by omega
      have hn1 : n1 ≤ 1000000 := by have := HS.out.len; rw [List.length_take] at this; omega
      cases Rw3.row HT.out
      go_wp2_with fail
      refine (push_any (L' := L.take (k + 1)) (ok := true) 256 true A1 n1 c1 s wr (by rw [HK.out]; exact push_room (by rw [List.length_take]; omega)) HS.out hn1).mono ?_
      clear hn1
      rintro e w3 ⟨A2, n2, c2, rfl, hS, hb⟩
      have HT3 := Lib.hid (HT.out.below hb HT.out.lt)
      have HS3 := Lib.hid hS
      have HW3 := Lib.hid (HW.out.trans (hb.mono HW.out.size))
      clear hb hS HT HS HW c0
      cases Rw3.row HT3.out
      by_cases h2 : 2000 < s.size
      · have d2 : decide ((2000 : Int) < (s.size : Int)) = true := decide_eq_true (by omega)
        clear h2 HK
        go_upto_region 8 with (fail)
        obtain ⟨w4, hw, l⟩ : ∃ w4 : World, w4 = Rw3.set w3 g (.int .i64 256) (.bool true) (.slice A2 n2 c2) ∧ Below w.heap.size w w4 := ⟨_, rfl, Rw3.below_set HW3.out L0 _ _ _⟩
        dsimp only [Rw3.set] at hw
        rw [← hw]
        have HW4 := Lib.hid l
        clear hw l HT3 HW3 HS3
        go_wp2_with fail
        refine (awake21 w4).mono ?_
        rintro e w5 ⟨rfl, hb⟩
        have HW5 := Lib.hid (HW4.out.trans (hb.mono HW4.out.size)); clear hb
        go_wp2
        go_ret
        exact ⟨rfl, HW5.out⟩
      · have d2 : decide ((2000 : Int) < (s.size : Int)) = false := decide_eq_false (by omega)
        clear h2
        go_upto_region 8 with (fail)
        obtain ⟨w4, hw, b, q, l⟩ : ∃ w4 : World, w4 = Rw3.set w3 g (.int .i64 256) (.bool true) (.slice A2 n2 c2) ∧ Blk w4 g 25 (wrC 256 true A2 n2 c2) ∧ Sl w4 A2 n2 c2 (L.take (k + 1)) ∧ Below w.heap.size w w4 := ⟨_, rfl, Rw3.blk_set HT3.out _ _ _, HS3.out.set3 HT3.out _ _ _, Rw3.below_set HW3.out L0 _ _ _⟩
        dsimp only [Rw3.set] at hw
        rw [← hw]
        have HT4 := Lib.hid b; have HS4 := Lib.hid q; have HW4 := Lib.hid l
        clear hw b q l HT3 HW3 HS3 HK
        go_wp2
        go_roundw
        case rel => exact ⟨k + 1, A2, n2, c2, by omega, by go_num, HT4.out, HS4.out, HW4.out⟩
        case measure => simp [intOf]; omega
    · have hek : k = L.length := by omega
      subst hek
      have hd : decide ((L.length : Int) < (L.length : Int)) = false := decide_eq_false (by omega)
      have hS := HS.out
      rw [List.take_length] at hS
      have hn : L.length = n1 := hS.len
      subst hn
      clear HS hlt hk
      have HS := Lib.hid hS; clear hS
      cases Rw3.row HT.out
      go_wp2_with fail
      refine (push_any (L' := L ++ [a]) (ok := true) 256 true A1 L.length c1 a wr (push_room (by omega)) HS.out (by omega)).mono ?_
      rintro e w3 ⟨A2, n2, c2, rfl, hS, hb⟩
      have HT3 := Lib.hid (HT.out.below hb HT.out.lt)
      have HS3 := Lib.hid (HS.out.below hb)
      have HX3 := Lib.hid hS
      have HW3 := Lib.hid (HW.out.trans (hb.mono HW.out.size))
      clear hb hS HT HS HW hd
      go_upto_region 12 with (fail)
      obtain ⟨w4, hw, b1, b2, q1, q2, l⟩ : ∃ w4 : World, w4 = w3.alloc (.cells (wrC 256 true A2 n2 c2) 25) ∧ Blk w4 g 25 (wrC 256 true A1 L.length c1) ∧ Blk w4 w3.heap.size 25 (wrC 256 true A2 n2 c2) ∧ Sl w4 A1 L.length c1 L ∧ Sl w4 A2 n2 c2 (L ++ [a]) ∧ Below w.heap.size w w4 := ⟨_, rfl, HT3.out.alloc _, Blk.fresh _ _ _, HS3.out.below ((Below.refl _ _).alloc (Nat.le_refl _) _), HX3.out.below ((Below.refl _ _).alloc (Nat.le_refl _) _), HW3.out.alloc HW3.out.size _⟩
      rw [← hw]
      have L1 : g < w3.heap.size := HT3.out.lt
      generalize w3.heap.size = p at b2 L1 ⊢
      have HT := Lib.hid b1; have HX := Lib.hid b2; have HS := Lib.hid q1; have HXS := Lib.hid q2; have HW := Lib.hid l
      clear hw b1 b2 q1 q2 l HT3 HS3 HX3 HW3
      cases Rw3.row HT.out
      go_wp2_with fail
      refine (push_any (L' := L ++ [b]) (ok := true) 256 true A1 L.length c1 b w4 (push_room (by omega)) HS.out (by omega)).mono ?_
      rintro e w5 ⟨A3, n3, c3, rfl, hS, hb⟩
      have HT5 := Lib.hid (HT.out.below hb HT.out.lt)
      have HX5 := Lib.hid (HX.out.below hb HX.out.lt)
      have HXS5 := Lib.hid (HXS.out.below hb)
      have HYS5 := Lib.hid hS
      have HW5 := Lib.hid (HW.out.trans (hb.mono HW.out.size))
      clear hb hS HT HX HXS HW HS
      go_upto_region 13 with (fail)
      obtain ⟨w6, hw, b1, b2, b3, q1, q2, l⟩ : ∃ w6 : World, w6 = w5.alloc (.cells (wrC 256 true A3 n3 c3) 25) ∧ Blk w6 g 25 (wrC 256 true A1 L.length c1) ∧ Blk w6 p 25 (wrC 256 true A2 n2 c2) ∧ Blk w6 w5.heap.size 25 (wrC 256 true A3 n3 c3) ∧ Sl w6 A2 n2 c2 (L ++ [a]) ∧ Sl w6 A3 n3 c3 (L ++ [b]) ∧ Below w.heap.size w w6 := ⟨_, rfl, HT5.out.alloc _, HX5.out.alloc _, Blk.fresh _ _ _, HXS5.out.below ((Below.refl _ _).alloc (Nat.le_refl _) _), HYS5.out.below ((Below.refl _ _).alloc (Nat.le_refl _) _), HW5.out.alloc HW5.out.size _⟩
      rw [← hw]
      have L2 : p < w5.heap.size := HX5.out.lt
      generalize w5.heap.size = r at b3 L2 ⊢
      have HT := Lib.hid b1; have HX := Lib.hid b2; have HY := Lib.hid b3; have HXS := Lib.hid q1; have HYS := Lib.hid q2; have HW := Lib.hid l
      clear hw b1 b2 b3 q1 q2 l HT5 HX5 HXS5 HYS5 HW5
      cases Rw3.row HT.out
      have hne : ((L.length : Int) != (L.length : Int)) = false := by simp
      go_wp2_with fail
      refine (len_any 256 true A1 L.length c1 w6).mono ?_
      rintro e w7 ⟨rfl, hb⟩
      have HX7 := Lib.hid (HX.out.below hb HX.out.lt)
      have HY7 := Lib.hid (HY.out.below hb HY.out.lt)
      have HXS7 := Lib.hid (HXS.out.below hb)
      have HYS7 := Lib.hid (HYS.out.below hb)
      have HW7 := Lib.hid (HW.out.trans (hb.mono HW.out.size))
      clear hb HT HX HY HXS HYS HW
      have HAr := HA; clear HA
      go_wp2_with fail
      go_loopw [89] (fun i wx => ∃ (k : Nat) (Ax : Option Addr) (nx cx : Nat) (Ay : Option Addr) (ny cy : Nat), k ≤ L.length ∧ i = .int .i64 k ∧ Blk wx p 25 (wrC 256 true Ax nx cx) ∧ Blk wx r 25 (wrC 256 true Ay ny cy) ∧ Sl wx Ax nx cx (L.drop k ++ [a]) ∧ Sl wx Ay ny cy (L.drop k ++ [b]) ∧ Below w.heap.size w wx) (fun i _ => L.length - (intOf i).toNat)
      case atStart => exact ⟨0, A2, n2, c2, A3, n3, c3, Nat.zero_le _, rfl, HX7.out, HY7.out, HXS7.out, HYS7.out, HW7.out⟩
      case round =>
        obtain ⟨k, Ax, nx, cx, Ay, ny, cy, hk, rfl, hX, hY, hXS, hYS, hW⟩ := hrel
        clear HX7 HY7 HXS7 HYS7 HW7
        have HX := Lib.hid hX; have HY := Lib.hid hY; have HXS := Lib.hid hXS; have HYS := Lib.hid hYS; have HW := Lib.hid hW
        clear hX hY hXS hYS hW
        by_cases hlt : k < L.length
        · obtain ⟨ad, hAd, hbl, hcl⟩ := (HAr.out.below HW.out) (by rw [length_strs]; omega)
          have c0 := hcl k _ (get_strs L k hlt)
          clear hcl
          subst hAd
          have hpa := pop_next L k hlt [a]
          have hpb := pop_next L k hlt [b]
          obtain ⟨s, hs⟩ : ∃ s, s = L[k] := ⟨_, rfl⟩
          rw [← hs] at c0 hpa hpb
          clear hs
          have HPA := Lib.hid hpa; have HPB := Lib.hid hpb; clear hpa hpb
          have hi2 : 0 ≤ (k : Int) ∧ (k : Int) < (L.length : Int) := by omega
          have hnx : nx ≤ 1000000 := by have := HXS.out.len; rw [List.length_append, List.length_drop, List.length_singleton] at this; omega
          have hny : ny ≤ 1000000 := by have := HYS.out.len; rw [List.length_append, List.length_drop, List.length_singleton] at this; omega
          cases Rw3.row HX.out
          go_wp2_with fail
          refine (pop_any 256 true Ax nx cx wr HPA.out HXS.out hnx).mono ?_
          rintro e w3 ⟨A2, n2, c2, rfl, hS, hb⟩
          have HX3 := Lib.hid (HX.out.below hb HX.out.lt)
          have HY3 := Lib.hid (HY.out.below hb HY.out.lt)
          have HYS3 := Lib.hid (HYS.out.below hb)
          have HU3 := Lib.hid hS
          have HW3 := Lib.hid (HW.out.trans (hb.mono HW.out.size))
          clear hb hS HX HY HXS HYS HW c0 hnx HPA
          go_upto_region 19 with (fail)
          obtain ⟨w4, hw, b1, b2, b3, q1, q2, l⟩ : ∃ w4 : World, w4 = w3.alloc (.cells (wrC 256 true A2 n2 c2) 25) ∧ Blk w4 p 25 (wrC 256 true Ax nx cx) ∧ Blk w4 r 25 (wrC 256 true Ay ny cy) ∧ Blk w4 w3.heap.size 25 (wrC 256 true A2 n2 c2) ∧ Sl w4 Ay ny cy (L.drop k ++ [b]) ∧ Sl w4 A2 n2 c2 (L.drop (k + 1) ++ [a]) ∧ Below w.heap.size w w4 := ⟨_, rfl, HX3.out.alloc _, HY3.out.alloc _, Blk.fresh _ _ _, HYS3.out.below ((Below.refl _ _).alloc (Nat.le_refl _) _), HU3.out.below ((Below.refl _ _).alloc (Nat.le_refl _) _), HW3.out.alloc HW3.out.size _⟩
          rw [← hw]
          have L3 : r < w3.heap.size := HY3.out.lt
          generalize w3.heap.size = u1 at b3 L3 ⊢
          have HX := Lib.hid b1; have HY := Lib.hid b2; have HU := Lib.hid b3; have HYS := Lib.hid q1; have HUS := Lib.hid q2; have HW := Lib.hid l
          clear hw b1 b2 b3 q1 q2 l HX3 HY3 HYS3 HU3 HW3
          cases Rw3.row HY.out
          go_wp2_with fail
          refine (pop_any 256 true Ay ny cy w4 HPB.out HYS.out hny).mono ?_
          rintro e w5 ⟨A3, n3, c3, rfl, hS, hb⟩
          have HX5 := Lib.hid (HX.out.below hb HX.out.lt)
          have HY5 := Lib.hid (HY.out.below hb HY.out.lt)
          have HU5 := Lib.hid (HU.out.below hb HU.out.lt)
          have HUS5 := Lib.hid (HUS.out.below hb)
          have HVS5 := Lib.hid hS
          have HW5 := Lib.hid (HW.out.trans (hb.mono HW.out.size))
          clear hb hS HX HY HU HUS HYS HW hny HPB
          go_upto_region 20 with (fail)
          obtain ⟨w6, hw, b1, b2, b3, b4, q1, q2, l⟩ : ∃ w6 : World, w6 = w5.alloc (.cells (wrC 256 true A3 n3 c3) 25) ∧ Blk w6 p 25 (wrC 256 true Ax nx cx) ∧ Blk w6 r 25 (wrC 256 true Ay ny cy) ∧ Blk w6 u1 25 (wrC 256 true A2 n2 c2) ∧ Blk w6 w5.heap.size 25 (wrC 256 true A3 n3 c3) ∧ Sl w6 A2 n2 c2 (L.drop (k + 1) ++ [a]) ∧ Sl w6 A3 n3 c3 (L.drop (k + 1) ++ [b]) ∧ Below w.heap.size w w6 := ⟨_, rfl, HX5.out.alloc _, HY5.out.alloc _, HU5.out.alloc _, Blk.fresh _ _ _, HUS5.out.below ((Below.refl _ _).alloc (Nat.le_refl _) _), HVS5.out.below ((Below.refl _ _).alloc (Nat.le_refl _) _), HW5.out.alloc HW5.out.size _⟩
          rw [← hw]
          have L4 : u1 < w5.heap.size := HU5.out.lt
          generalize w5.heap.size = u2 at b4 L4 ⊢
          have HX := Lib.hid b1; have HY := Lib.hid b2; have HU := Lib.hid b3; have HV := Lib.hid b4; have HUS := Lib.hid q1; have HVS := Lib.hid q2; have HW := Lib.hid l
          clear hw b1 b2 b3 b4 q1 q2 l HX5 HY5 HU5 HUS5 HVS5 HW5
          cases Rw3.row HX.out
          cases Rw3.row HY.out
          cases Rw3.row HU.out
          cases Rw3.row HV.out
          go_region
          obtain ⟨w7, hw, b1, b2, q1, q2, l⟩ : ∃ w7 : World, w7 = (Rw3.set (Rw3.set w6 p (.int .i64 256) (.bool true) (.slice A2 n2 c2)) r (.int .i64 256) (.bool true) (.slice A3 n3 c3)).drew ∧ Blk w7 p 25 (wrC 256 true A2 n2 c2) ∧ Blk w7 r 25 (wrC 256 true A3 n3 c3) ∧ Sl w7 A2 n2 c2 (L.drop (k + 1) ++ [a]) ∧ Sl w7 A3 n3 c3 (L.drop (k + 1) ++ [b]) ∧ Below w.heap.size w w7 :=
            ⟨_, rfl, (Rw3.far (Rw3.blk_set HX.out _ _ _) (by omega) _ _ _).drew, (Rw3.blk_set (Rw3.far HY.out (by omega) _ _ _) _ _ _).drew, ((HUS.out.set3 HX.out _ _ _).set3 (Rw3.far HY.out (by omega) _ _ _) _ _ _).drew, ((HVS.out.set3 HX.out _ _ _).set3 (Rw3.far HY.out (by omega) _ _ _) _ _ _).drew, (Rw3.below_set (Rw3.below_set HW.out (by omega) _ _ _) (by omega) _ _ _).drew⟩
          dsimp only [Rw3.set] at hw
          rw [← hw]
          have HX7 := Lib.hid b1; have HY7 := Lib.hid b2; have HXS7 := Lib.hid q1; have HYS7 := Lib.hid q2; have HW7 := Lib.hid l
          clear hw b1 b2 q1 q2 l HX HY HU HV HUS HVS HW
          have f1 : (s.toList != s.toList) = false := by simp
          go_wp2
          go_roundw
          case rel => exact ⟨k + 1, A2, n2, c2, A3, n3, c3, by omega, by go_num, HX7.out, HY7.out, HXS7.out, HYS7.out, HW7.out⟩
          case measure => simp [intOf]; omega
        · have hek : k = L.length := by omega
          subst hek
          have hd : decide ((L.length : Int) < (L.length : Int)) = false := decide_eq_false (by omega)
          have hXS := HXS.out
          have hYS := HYS.out
          rw [List.drop_length, List.nil_append] at hXS hYS
          have hnx : 1 = nx := hXS.len
          have hny : 1 = ny := hYS.len
          subst hnx hny
          clear HXS HYS hlt hk
          have HXS := Lib.hid hXS; have HYS := Lib.hid hYS; clear hXS hYS
          cases Rw3.row HX.out
          go_wp2_with fail
          refine (pop_any (L := [a]) (L' := []) (s := a) (ok := true) 256 true Ax 1 cx wr rfl HXS.out (by omega)).mono ?_
          rintro e w3 ⟨A2, n2, c2, rfl, hS, hb⟩
          have HY3 := Lib.hid (HY.out.below hb HY.out.lt)
          have HYS3 := Lib.hid (HYS.out.below hb)
          have HW3 := Lib.hid (HW.out.trans (hb.mono HW.out.size))
          clear hb hS HX HY HXS HYS HW hd
          go_upto_region 25 with (fail)
          obtain ⟨w4, hw, b2, q1, l⟩ : ∃ w4 : World, w4 = w3.alloc (.cells (wrC 256 true A2 n2 c2) 25) ∧ Blk w4 r 25 (wrC 256 true Ay 1 cy) ∧ Sl w4 Ay 1 cy [b] ∧ Below w.heap.size w w4 := ⟨_, rfl, HY3.out.alloc _, HYS3.out.below ((Below.refl _ _).alloc (Nat.le_refl _) _), HW3.out.alloc HW3.out.size _⟩
          rw [← hw]
          have HY := Lib.hid b2; have HYS := Lib.hid q1; have HW := Lib.hid l
          clear hw b2 q1 l HY3 HYS3 HW3
          cases Rw3.row HY.out
          go_wp2_with fail
          refine (pop_any (L := [b]) (L' := []) (s := b) (ok := true) 256 true Ay 1 cy w4 rfl HYS.out (by omega)).mono ?_
          rintro e w5 ⟨A3, n3, c3, rfl, hS, hb⟩
          have HW5 := Lib.hid (HW.out.trans (hb.mono HW.out.size))
          clear hb hS HY HYS HW
          go_upto_region 26 with (fail)
          obtain ⟨w6, hw, l⟩ : ∃ w6 : World, w6 = w5.alloc (.cells (wrC 256 true A3 n3 c3) 25) ∧ Below w.heap.size w w6 := ⟨_, rfl, HW5.out.alloc HW5.out.size _⟩
          rw [← hw]
          have HW := Lib.hid l
          clear hw l HW5
          go_wp2_with fail
          refine (awake21 w6).mono ?_
          rintro e w7 ⟨rfl, hb⟩
          have HW7 := Lib.hid (HW.out.trans (hb.mono HW.out.size)); clear hb
          have f1 : (a.toList == a.toList) = true := by simp
          have f2 : (b.toList == b.toList) = true := by simp
          go_wp2
          go_ret
          exact ⟨rfl, HW7.out⟩
end Go.Proofs.Ytaolhjmmgippmaa.Wr
