/-
  The statement ReqOrders: the order of requests; its walk.
-/
import Derived.Test.YtfbocejpmmhleaaDoorRReqB
namespace Go.Proofs.YtfbocejpmmhleaaDoorR.Rq
open Go.RowKit Go.Proofs.YtfbocejpmmhleaaDoorR.Bt Go.Proofs.YtfbocejpmmhleaaDoorR.Mm Go.Proofs.YtfbocejpmmhleaaDoorR.Fl Go.Proofs.YtfbocejpmmhleaaDoorR.Lw
theorem above_num {x y : Int} (h0 : 0 ≤ x) (h1 : x < 14) (g0 : 0 ≤ y) (g1 : y ≤ 14) : aboveK x y = decide (x < y) := by
  by_cases h : y < 14
  · simp [aboveK, mayK, h0, h1, g0, h]
  · have hx : x < y := by omega
    simp [aboveK, mayK, h0, h1, h, hx]
theorem none_above (y : Int) : aboveK 14 y = false := by simp [aboveK, mayK]
theorem fold_best (l : List Int) : ∀ b : Int, 0 ≤ b → b ≤ 14 → (∀ z ∈ l, 0 ≤ z ∧ z < 14) → (l.foldl pick b = b ∨ l.foldl pick b ∈ l) ∧ l.foldl pick b ≤ b ∧ (0 ≤ l.foldl pick b) ∧ ∀ z ∈ l, l.foldl pick b ≤ z := by
  induction l with
  | nil => intro b h0 h1 _; exact ⟨.inl rfl, Int.le_refl _, h0, fun z hz => by cases hz⟩
  | cons a l ih =>
    intro b h0 h1 hl
    have ha := hl a (by simp)
    have hp : pick b a = if a < b then a else b := by
      unfold pick
      rw [above_num ha.1 ha.2 h0 h1]
      by_cases h : a < b <;> simp [h]
    have hq : pick b a ≤ b ∧ pick b a ≤ a ∧ 0 ≤ pick b a ∧ (pick b a = b ∨ pick b a = a) := by
      rw [hp]; split <;> refine ⟨?_, ?_, ?_, ?_⟩ <;> omega
    obtain ⟨i1, i2, i3, i4⟩ := ih (pick b a) hq.2.2.1 (by omega) (fun z hz => hl z (by simp [hz]))
    rw [List.foldl_cons]
    refine ⟨?_, by omega, i3, fun z hz => ?_⟩
    · rcases i1 with e | e
      · rcases hq.2.2.2 with e2 | e2
        · exact .inl (e.trans e2)
        · right; rw [e, e2]; simp
      · right; simp [e]
    · rcases List.mem_cons.1 hz with rfl | hz
      · omega
      · exact i4 z hz
theorem best_mem (l : List Int) (hl : ∀ z ∈ l, 0 ≤ z ∧ z < 14) (hn : 0 < l.length) : bestK l ∈ l ∧ ∀ z ∈ l, aboveK z (bestK l) = false := by
  obtain ⟨i1, i2, i3, i4⟩ := fold_best l 14 (by decide) (by decide) hl
  have hr : l.foldl pick 14 ∈ l := by
    rcases i1 with e | e
    · exfalso
      have h0 := List.getElem_mem hn
      have := i4 _ h0
      have := hl _ h0
      omega
    · exact e
  refine ⟨hr, fun z hz => ?_⟩
  have h1 := hl z hz
  have h2 := hl _ hr
  show aboveK z (l.foldl pick 14) = false
  rw [above_num h1.1 h1.2 h2.1 (by omega)]
  have := i4 z hz
  simpa using this
theorem tmod14 (a : Nat) : Int.tmod (a : Int) 14 = ((a % 14 : Nat) : Int) := rfl
/-- the numbers as requests -/
def rq (zs : List Nat) : List Int := zs.map fun z => ((z % 14 : Nat) : Int)
theorem rq_in (zs : List Nat) : ∀ z ∈ rq zs, 0 ≤ z ∧ z < 14 := by
  intro z hz
  obtain ⟨a, _, rfl⟩ := List.mem_map.1 hz
  omega
def met (b : Int) (l : List Int) : Bool := l.any (fun z => z == b)
theorem met_snoc (b : Int) (l : List Int) (j : Nat) (h : j < l.length) : met b (l.take (j + 1)) = (met b (l.take j) || l[j] == b) := by
  unfold met; rw [List.take_succ_eq_append_getElem h, List.any_append]; simp only [List.any_cons, List.any_nil, Bool.or_false]
theorem met_mem (b : Int) (l : List Int) (h : b ∈ l) : met b l = true := by
  simp only [met, List.any_eq_true]; exact ⟨b, h, by simp⟩
theorem best_len {r : Int} (ls : List Int) (m : Nat) (A : Option Addr) (c : Nat) (w : World) (h : Hid (bestK ls = r)) (hl : ls.length = m) (hm : m ≤ 1000000) (hA : Rd w w.heap.size A (ks ls)) :
    Calls Tryd.prog 14 #[.slice A m c] w fun e w' => e = .returned (.int .i64 r) ∧ w' = w := by
  subst hl; exact best_at ls A c w h hm hA
theorem info_kind : (Tryd.prog.info? 22).map (fun i => (i.zero, i.size, i.bytes)) = some (some (.int .i64 0), 1, 8) := by kernel_rfl
set_option maxRecDepth 100000 in
set_option maxHeartbeats 2000000 in
theorem orders_walk (a b c : Nat) (zs : List Nat) (A : Option Addr) (cp : Nat) (w : World) (_ha : a < 256) (_hb : b < 256) (_hc : c < 256) (hm : zs.length ≤ maxLen) (hA : Rd w w.heap.size A (nums .u8 zs)) (hz : ∀ z ∈ zs, z < 256) (hw : Wd w) :
    Calls Tryd.prog 4 #[.int .u8 (a : Int), .int .u8 (b : Int), .int .u8 (c : Int), .slice A zs.length cp] w (Law1 w) := by
  unfold maxLen at hm
  have HW := Lib.hid hw
  have HA := Lib.hid hA
  have HZ := Lib.hid hz
  clear hw hA hz _ha _hb _hc
  obtain ⟨x, hx⟩ : ∃ x : Int, x = ((a % 14 : Nat) : Int) := ⟨_, rfl⟩
  obtain ⟨y, hy⟩ : ∃ y : Int, y = ((b % 14 : Nat) : Int) := ⟨_, rfl⟩
  obtain ⟨z, hz⟩ : ∃ z : Int, z = ((c % 14 : Nat) : Int) := ⟨_, rfl⟩
  have bx : 0 ≤ x ∧ x < 14 := by omega
  have by' : 0 ≤ y ∧ y < 14 := by omega
  have bz : 0 ≤ z ∧ z < 14 := by omega
  have tx : Int.tmod (a : Int) 14 = x := (tmod14 a).trans hx.symm
  have ty : Int.tmod (b : Int) 14 = y := (tmod14 b).trans hy.symm
  have tz : Int.tmod (c : Int) 14 = z := (tmod14 c).trans hz.symm
  have ux : IntKind.u8.wrap x = x := IntWalk.u8_in _ ⟨by omega, by omega⟩
  have uy : IntKind.u8.wrap y = y := IntWalk.u8_in _ ⟨by omega, by omega⟩
  have uz : IntKind.u8.wrap z = z := IntWalk.u8_in _ ⟨by omega, by omega⟩
  have ix : IntKind.i64.wrap x = x := IntWalk.i64_in _ ⟨by omega, by omega⟩
  have iy : IntKind.i64.wrap y = y := IntWalk.i64_in _ ⟨by omega, by omega⟩
  have iz : IntKind.i64.wrap z = z := IntWalk.i64_in _ ⟨by omega, by omega⟩
  clear hx hy hz
  obtain ⟨p, hp⟩ : ∃ p, aboveK x y = p := ⟨_, rfl⟩
  obtain ⟨q, hq⟩ : ∃ q, aboveK y x = q := ⟨_, rfl⟩
  obtain ⟨r, hr⟩ : ∃ r, aboveK y z = r := ⟨_, rfl⟩
  obtain ⟨s, hs⟩ : ∃ s, aboveK x z = s := ⟨_, rfl⟩
  obtain ⟨n, hn⟩ : ∃ n, (x == y) = n := ⟨_, rfl⟩
  have d1 := hp
  have d2 := hq
  have d3 := hr
  have d4 := hs
  rw [above_num bx.1 bx.2 by'.1 (by omega)] at d1
  rw [above_num by'.1 by'.2 bx.1 (by omega)] at d2
  rw [above_num by'.1 by'.2 bz.1 (by omega)] at d3
  rw [above_num bx.1 bx.2 bz.1 (by omega)] at d4
  have k1 : p = true → q = false ∧ n = false := by
    intro e; subst e
    have := of_decide_eq_true d1
    refine ⟨?_, ?_⟩
    · rw [← d2]; exact decide_eq_false (by omega)
    · rw [← hn]; simp; omega
  have k2 : p = false → n = false → q = true := by
    intro e e2; subst e; subst e2
    have h1 := of_decide_eq_false d1
    have h2 : ¬ x = y := by simpa using hn
    rw [← d2]; exact decide_eq_true (by omega)
  have k3 : p = true → r = true → s = true := by
    intro e e2; subst e; subst e2
    have h1 := of_decide_eq_true d1
    have h2 := of_decide_eq_true d3
    rw [← d4]; exact decide_eq_true (by omega)
  have HXX := Lib.hid (show aboveK x x = false by rw [above_num bx.1 bx.2 bx.1 (by omega)]; exact decide_eq_false (by omega))
  have HXN := Lib.hid (show aboveK x 14 = true by rw [above_num bx.1 bx.2 (by decide) (by decide)]; exact decide_eq_true (by omega))
  have HNX := Lib.hid (none_above x)
  have HP := Lib.hid hp
  have HQ := Lib.hid hq
  have HR := Lib.hid hr
  have HS := Lib.hid hs
  clear d1 d2 d3 d4 hp hq hr hs
  go_enter Tryd.func4, Tryd.ntmps4
  go_upto_region 2 with (fail)
  go_cut [82] (fun s82 wx => s82 = .bool false ∧ wx = w)
  case first =>
    cases p
    · cases n
      · obtain rfl := k2 rfl rfl
        have hne : ¬ x = y := by simpa using hn
        clear k1 k2 k3 hn
        go_wp2_with fail
        refine (above_b HP w).mono ?_
        rintro e w1 ⟨rfl, rfl⟩
        go_wp2_with fail
        refine (above_b HP w1).mono ?_
        rintro e w2 ⟨rfl, rfl⟩
        go_wp2_with fail
        refine (above_b HQ w2).mono ?_
        rintro e w3 ⟨rfl, rfl⟩
        go_wp2_with fail
        refine (above_b HP w3).mono ?_
        rintro e w4 ⟨rfl, rfl⟩
        go_wp2_with fail
        refine (above_b HXX w4).mono ?_
        rintro e w5 ⟨rfl, rfl⟩
        go_wp2_with fail
        refine (above_b HXN w5).mono ?_
        rintro e w6 ⟨rfl, rfl⟩
        go_wp2_with fail
        refine (above_b HNX w6).mono ?_
        rintro e w7 ⟨rfl, rfl⟩
        go_wp2_with fail
        go_meet
        exact ⟨rfl, rfl⟩
      · have heq : x = y := by simpa using hn
        clear k1 k2 k3 hn
        subst heq
        go_wp2_with fail
        refine (above_b HP w).mono ?_
        rintro e w1 ⟨rfl, rfl⟩
        go_wp2_with fail
        refine (above_b HP w1).mono ?_
        rintro e w2 ⟨rfl, rfl⟩
        go_wp2_with fail
        refine (above_b HXX w2).mono ?_
        rintro e w3 ⟨rfl, rfl⟩
        go_wp2_with fail
        refine (above_b HXN w3).mono ?_
        rintro e w4 ⟨rfl, rfl⟩
        go_wp2_with fail
        refine (above_b HNX w4).mono ?_
        rintro e w5 ⟨rfl, rfl⟩
        go_wp2_with fail
        go_meet
        exact ⟨rfl, rfl⟩
    · obtain ⟨rfl, rfl⟩ := k1 rfl
      have hne : ¬ x = y := by simpa using hn
      clear hn
      cases r
      · clear k1 k2 k3
        go_wp2_with fail
        refine (above_b HP w).mono ?_
        rintro e w1 ⟨rfl, rfl⟩
        go_wp2_with fail
        refine (above_b HQ w1).mono ?_
        rintro e w2 ⟨rfl, rfl⟩
        go_wp2_with fail
        refine (above_b HP w2).mono ?_
        rintro e w3 ⟨rfl, rfl⟩
        go_wp2_with fail
        refine (above_b HP w3).mono ?_
        rintro e w4 ⟨rfl, rfl⟩
        go_wp2_with fail
        refine (above_b HR w4).mono ?_
        rintro e w5 ⟨rfl, rfl⟩
        go_wp2_with fail
        refine (above_b HXX w5).mono ?_
        rintro e w6 ⟨rfl, rfl⟩
        go_wp2_with fail
        refine (above_b HXN w6).mono ?_
        rintro e w7 ⟨rfl, rfl⟩
        go_wp2_with fail
        refine (above_b HNX w7).mono ?_
        rintro e w8 ⟨rfl, rfl⟩
        go_wp2_with fail
        go_meet
        exact ⟨rfl, rfl⟩
      · obtain rfl := k3 rfl rfl
        clear k1 k2 k3
        go_wp2_with fail
        refine (above_b HP w).mono ?_
        rintro e w1 ⟨rfl, rfl⟩
        go_wp2_with fail
        refine (above_b HQ w1).mono ?_
        rintro e w2 ⟨rfl, rfl⟩
        go_wp2_with fail
        refine (above_b HP w2).mono ?_
        rintro e w3 ⟨rfl, rfl⟩
        go_wp2_with fail
        refine (above_b HP w3).mono ?_
        rintro e w4 ⟨rfl, rfl⟩
        go_wp2_with fail
        refine (above_b HR w4).mono ?_
        rintro e w5 ⟨rfl, rfl⟩
        go_wp2_with fail
        refine (above_b HS w5).mono ?_
        rintro e w6 ⟨rfl, rfl⟩
        go_wp2_with fail
        refine (above_b HXX w6).mono ?_
        rintro e w7 ⟨rfl, rfl⟩
        go_wp2_with fail
        refine (above_b HXN w7).mono ?_
        rintro e w8 ⟨rfl, rfl⟩
        go_wp2_with fail
        refine (above_b HNX w8).mono ?_
        rintro e w9 ⟨rfl, rfl⟩
        go_wp2_with fail
        go_meet
        exact ⟨rfl, rfl⟩
  case rest =>
    obtain ⟨rfl, rfl⟩ := hcut
    clear HXX HXN HNX HP HQ HR HS k1 k2 k3 hn tx ty tz ux uy uz ix iy iz
    by_cases h1 : zs.length = 0 ∨ 60 < zs.length
    · have HE := Lib.hid (show bestK [] = 14 from rfl)
      by_cases h0 : zs.length = 0
      · have l0 : ((zs.length : Int) == 0) = true := by rw [h0]; rfl
        go_wp2_with fail
        refine (awake12 wc HW.out).mono ?_
        rintro e w1 ⟨rfl, hb⟩
        have HB1 := Lib.hid hb
        clear hb
        go_wp2_with fail
        refine (best_at [] none 0 w1 HE (by decide) (Rd.none _ _ _)).mono ?_
        rintro e w2 ⟨rfl, rfl⟩
        go_wp2
        go_ret
        exact ⟨rfl, HB1.out⟩
      · have l0 : ((zs.length : Int) == 0) = false := by rw [beq_eq_false_iff_ne]; omega
        have l1 : decide ((60 : Int) < (zs.length : Int)) = true := by simp; omega
        go_wp2_with fail
        refine (awake12 wc HW.out).mono ?_
        rintro e w1 ⟨rfl, hb⟩
        have HB1 := Lib.hid hb
        clear hb
        go_wp2_with fail
        refine (best_at [] none 0 w1 HE (by decide) (Rd.none _ _ _)).mono ?_
        rintro e w2 ⟨rfl, rfl⟩
        go_wp2
        go_ret
        exact ⟨rfl, HB1.out⟩
    · have h60 : zs.length ≤ 60 := by omega
      have hpos : 0 < zs.length := by omega
      have l0 : ((zs.length : Int) == 0) = false := by rw [beq_eq_false_iff_ne]; omega
      have l1 : decide ((60 : Int) < (zs.length : Int)) = false := by simp; omega
      clear h1
      obtain ⟨m, hm2⟩ : ∃ m, m = zs.length := ⟨_, rfl⟩
      obtain ⟨ls, hls⟩ : ∃ ls, ls = rq zs := ⟨_, rfl⟩
      have hll : ls.length = m := by rw [hls, hm2]; simp [rq]
      obtain ⟨bk, hbk⟩ : ∃ bk, bestK ls = bk := ⟨_, rfl⟩
      have hmm := best_mem ls (by rw [hls]; exact rq_in zs) (by omega)
      rw [hbk] at hmm
      have HM := Lib.hid hmm.1
      have HN := Lib.hid hmm.2
      have HBK := Lib.hid hbk
      have HLS := Lib.hid hls
      have HLL := Lib.hid hll
      have HML := Lib.hid hm2
      have HZL := Lib.hid (show zs.length = m from hm2.symm)
      rw [← hm2] at h60 hpos l0 l1 hm ⊢
      clear hmm hbk hls hll hm2
      obtain ⟨i0, hi, hz0, hz1, hz2⟩ := info_parts info_kind
      have HB0 := Lib.hid (Below.refl wc.heap.size wc)
      go_wp2_with fail
      go_loopw [12, 98] (fun v i wr => ∃ (k : Nat) (R : Option Addr) (rc : Nat), k ≤ m ∧ i = .int .i64 k ∧ v = .slice R k rc ∧ wr.ownsRow wc.heap.size 22 1 (.slice R k rc) k (ks (ls.take k)) ∧ Below wc.heap.size wc wr) (fun _ i _ => m - (intOf i).toNat)
      case atStart => exact ⟨0, none, 0, Nat.zero_le _, rfl, rfl, World.ownsRow_nil _ _ _ _, HB0.out⟩
      case round =>
        obtain ⟨k, R, rc, hk, rfl, rfl, hown, hb⟩ := hrel
        have hsz := hb.size
        have HBw := Lib.hid hb
        have HO := Lib.hid hown
        clear hb hown
        by_cases hlt : k < m
        · have hkz : k < zs.length := by rw [HZL.out]; exact hlt
          have hkl : k < ls.length := by rw [HLL.out]; exact hlt
          obtain ⟨ad, rfl, hbl, hcell⟩ := (HA.out.below HBw.out) (by rw [length_nums]; omega)
          have c0 := hcell k _ (get_nums .u8 zs k hkz)
          clear hcell
          have e1 : ks (ls.take (k + 1)) = ks (ls.take k) ++ [.int .i64 ls[k]] := by
            unfold ks; rw [List.take_succ_eq_append_getElem hkl, List.map_append]; rfl
          have e2 : ls[k] = ((zs.getD k 0 % 14 : Nat) : Int) := by
            have h1 : ls = rq zs := HLS.out
            subst h1
            simp [rq, List.getD_eq_getElem?_getD, hkz]
          generalize zs.getD k 0 = d at c0 e2
          generalize ls[k] = x at e1 e2
          have bx : 0 ≤ x ∧ x < 14 := by omega
          have tx : Int.tmod (d : Int) 14 = x := (tmod14 d).trans e2.symm
          have ux : IntKind.u8.wrap x = x := IntWalk.u8_in _ ⟨by omega, by omega⟩
          have ix : IntKind.i64.wrap x = x := IntWalk.i64_in _ ⟨by omega, by omega⟩
          have HE1 := Lib.hid e1
          clear e1 e2 hkz hkl
          go_wp2_with (at_builtin; refine wpList_append_own _ rfl (.tmp 102) (.tmp 106) 31 rfl wc.heap.size 22 i0 (.int .i64 0) 1 8 Tryd.underlying31 hi hz0 hz1 hz2 rfl (by decide) _ _ _ rfl (HO.out.alloc _) ⟨wr.heap.size, 0, none⟩ 1 1 [.int .i64 x] rfl rfl (cell_new _ _ _) (by intro u hu; simp at hu; subst hu; rfl) (by unfold maxLen; omega) (by omega) (by simp; omega) ?_; intro v' w2 hown' hgrow _)
          obtain ⟨R', rc', rfl⟩ := own_slice hown'
          have HB2 := Lib.hid (below_own (HBw.out.alloc hsz _) (HO.out.alloc _) (by simp; omega) hgrow)
          have HO2 := Lib.hid hown'
          clear hown' hgrow
          go_wp2
          go_roundw
          case rel =>
            refine ⟨k + 1, R', rc', by omega, by go_num, rfl, ?_, HB2.out⟩
            rw [HE1.out]; exact HO2.out
          case measure => simp [intOf]; omega
        · obtain rfl : k = m := by omega
          have ht : ls.take k = ls := List.take_of_length_le (by rw [HLL.out]; exact Nat.le_refl _)
          have HR0 := Rd.of_own HO.out
          rw [ht] at HR0
          have HR := Lib.hid HR0
          have HWr := Lib.hid (HW.out.below HBw.out HW.out.lt)
          clear HR0 ht HO HA
          go_wp2_with fail
          refine (best_len ls k R rc wr HBK HLL.out (by omega) HR.out).mono ?_
          rintro e w1 ⟨rfl, rfl⟩
          go_wp2_with fail
          go_loop [16, 113] (fun v i => ∃ j : Nat, j ≤ k ∧ i = .int .i64 j ∧ v = .bool (met bk (ls.take j))) (fun _ i => k - (intOf i).toNat)
          case atStart => exact ⟨0, Nat.zero_le _, rfl, rfl⟩
          case round =>
            obtain ⟨j, hj, rfl, rfl⟩ := hrel
            by_cases hlt2 : j < k
            · have hjl : j < ls.length := by rw [HLL.out]; exact hlt2
              obtain ⟨ad, rfl, hbl, hcell⟩ := HR.out (by simp [ks]; omega)
              have c0 := hcell j (.int .i64 ls[j]) (by simp [ks, hjl])
              clear hcell
              have hs := met_snoc bk ls j hjl
              have hno := HN.out ls[j] (List.getElem_mem hjl)
              generalize met bk (ls.take j) = t at hs ⊢
              generalize ls[j] = z at c0 hs hno
              obtain ⟨u, hu⟩ : ∃ u, (z == bk) = u := ⟨_, rfl⟩
              rw [hu] at hs
              have HS := Lib.hid hs
              have HNO := Lib.hid hno
              clear hs hno hjl
              cases t
              all_goals
                go_wp2_with fail
                refine (above_b HNO w1).mono ?_
                rintro e w2 ⟨rfl, rfl⟩
                go_wp2
                go_round
                case rel => exact ⟨j + 1, by omega, by go_num, by rw [HS.out]; rfl⟩
                case measure => simp [intOf]; omega
            · obtain rfl : j = k := by omega
              have ht : met bk (ls.take j) = true := by rw [List.take_of_length_le (by rw [HLL.out]; exact Nat.le_refl _)]; exact met_mem bk ls HM.out
              rw [ht]
              clear ht
              go_wp2_with fail
              refine (awake12 w1 HWr.out).mono ?_
              rintro e w2 ⟨rfl, hb⟩
              have HB2 := Lib.hid (HBw.out.trans (hb.mono hsz))
              clear hb
              go_wp2
              go_ret
              exact ⟨rfl, HB2.out⟩
end Go.Proofs.YtfbocejpmmhleaaDoorR.Rq
