/-
  Tables, the program's: without, Sweep, Flush.
-/
import Derived.Test.YtljkodfdiebfiaaFdbD
namespace Go.Proofs.Ytljkodfdiebfiaa.Fd
open Go.RowKit Go.Maps Go.Proofs.Ytljkodfdiebfiaa.Mm Go.Proofs.Ytljkodfdiebfiaa.Tg

abbrev mkK (q : Nat × Nat) : Value := keyV q.1 q.2
abbrev mkV (q : Int × Int) : Value := sgV q.1 q.2
theorem inv_k (key : Value) (k : Lit) (h : keyOf Try.prog 53 key = some k) : ∃ q, key = mkK q := by
  obtain ⟨q, h1, _⟩ := keyK_inv h
  exact ⟨q, h1⟩
theorem inv_v (v : Value) (y : DataW Unit × List MemPlace) (h : Rs v = some y) : ∃ q, v = mkV q := by
  obtain ⟨q, h1, _⟩ := rs_inv h
  exact ⟨q, h1⟩
theorem keyV_inj {v a v' a' : Nat} (h : keyV v a = keyV v' a') : v = v' ∧ a = a' := by
  simp only [keyV, Value.agg.injEq, Array.mk.injEq, List.cons.injEq, Value.int.injEq, and_true, true_and] at h
  exact ⟨by omega, by omega⟩
/-- an entry that a range meets is a row -/
theorem entry_row {l : List Fr} {q : Nat × Nat} {c : Int × Int} {k : Lit} {y : DataW Unit × List MemPlace} (hk : ∀ x ∈ l, okK x) (hkey : keyOf Try.prog 53 (mkK q) = some k) (hat : ∀ zd, (toD l).atKey k zd = y.1) (hv : Rs (mkV c) = some y) :
    Fr.mk q.1 q.2 c.1 c.2 ∈ l ∧ k = kl q.1 q.2 ∧ InK q.1 q.2 := by
  obtain ⟨q', e1, e2, e3⟩ := keyK_inv hkey
  obtain ⟨f1, f2⟩ := keyV_inj e1
  rw [← f1, ← f2] at e2 e3
  have hy : y = (sg c.1 c.2, []) := by
    obtain ⟨c', g1, g2⟩ := rs_inv hv
    have : c = c' := by
      simp only [mkV, sgV, Value.agg.injEq, Array.mk.injEq, List.cons.injEq, Value.int.injEq, and_true, true_and] at g1
      exact Prod.ext g1.1 g1.2
    rw [this]; exact g2
  subst hy
  refine ⟨?_, e3, e2⟩
  cases ho : findK l q.1 q.2 with
  | none =>
    have h1 := hat .nil
    rw [e3, toD_at e2 _ hk, ho] at h1
    simp [sg] at h1
  | some x =>
    have h1 := hat .nil
    rw [e3, toD_at e2 _ hk, ho] at h1
    obtain ⟨g1, g2⟩ := sg_inj h1
    have hx : x ∈ l := List.mem_of_find?_eq_some ho
    have hx2 := List.find?_some ho
    simp only [decide_eq_true_eq] at hx2
    obtain ⟨h3, h4⟩ := hx2
    cases x
    simp only at g1 g2 h3 h4
    subst g1 g2 h3 h4
    exact hx
/-- the rows that are not struck yet -/
def stay (goes : Int → Int → Bool) (left : Lit → Bool) (x : Fr) : Bool := !goes x.port x.seen || left (kl x.vlan x.addr)
section
variable {l : List Fr} (goes : Int → Int → Bool)
theorem stay_start (hk : ∀ x ∈ l, okK x) (hr : Rising l) : l.filter (stay goes (Maps.has (toD l))) = l := by
  rw [List.filter_eq_self]
  intro x hx
  unfold stay
  rw [toD_has (hk x hx) hk, (find_some hr).2 ⟨hx, rfl, rfl⟩]
  simp
theorem stay_end {left : Lit → Bool} (h : ∀ k, left k = false) : l.filter (stay goes left) = l.filter (fun x => !goes x.port x.seen) := List.filter_congr fun x _ => by unfold stay; rw [h]; simp
theorem stay_stays {left : Lit → Bool} (hk : ∀ x ∈ l, okK x) (hr : Rising l) {X : Fr} (hX : X ∈ l) (hg : goes X.port X.seen = false) : l.filter (stay goes (fun z => left z && !z.sameKey (kl X.vlan X.addr))) = l.filter (stay goes left) := List.filter_congr fun x hx => by
  unfold stay
  dsimp only
  rw [kl_same (hk x hx) (hk X hX)]
  by_cases e : x.vlan = X.vlan ∧ x.addr = X.addr
  · rw [one_row hr hx hX e, hg]; simp
  · simp [e]
theorem stay_goes {left : Lit → Bool} (hk : ∀ x ∈ l, okK x) (hr : Rising l) {X : Fr} (hX : X ∈ l) (hg : goes X.port X.seen = true) : (toD (l.filter (stay goes left))).del (kl X.vlan X.addr) = toD (l.filter (stay goes (fun z => left z && !z.sameKey (kl X.vlan X.addr)))) := by
  rw [toD_del (hk X hX) (fun x hx => hk x (List.mem_filter.1 hx).1), List.filter_filter]
  congr 1
  refine List.filter_congr fun x hx => ?_
  unfold stay
  dsimp only
  rw [kl_same (hk x hx) (hk X hX)]
  by_cases e : x.vlan = X.vlan ∧ x.addr = X.addr
  · rw [one_row hr hx hX e, hg]; simp
  · simp [e]
end

set_option maxRecDepth 100000 in
set_option maxHeartbeats 4000000 in
theorem without_any (g : Nat) (cb : Array Value) (goes : Int → Int → Bool) {room age : Int} {b : Nat} {l : List Fr} {w : World}
    (eg : ∀ args w, (callFunc g args).run Try.prog w = .ok (.enter g args) w) (h : Mp w b l) (hr : Rising l) (hk : ∀ x ∈ l, okK x)
    (hdel : ∀ (W : World) (p s : Int), (∃ x ∈ l, x.port = p ∧ x.seen = s) → Below w.heap.size w W → Calls Try.prog g (#[sgV p s] ++ cb) W fun e w' => e = .returned (.bool (goes p s)) ∧ Below W.heap.size W w') :
    Calls Try.prog 27 #[tbV room age (some b), .func (.func g) #[] cb] w fun e w' => ∃ b', e = .returned (tbV room age (some b')) ∧ w.heap.size ≤ b' ∧ Mp w' b' (l.filter (fun x => !goes x.port x.seen)) ∧ Below w.heap.size w w' := by
  have HM := Lib.hid h; have HS := Lib.hid hr; have HK := Lib.hid hk; have HD : Aside _ := hdel
  clear h hr hk hdel
  go_enter Try.func27, Try.ntmps27
  go_upto_region 1 with (fail)
  have HA := Lib.hid (blk_two w 26 26 (tbC room age (some b)) noT)
  have HR := Lib.hid (fresh_second w (.cells (tbC room age (some b)) 26) 26 noT)
  have HB := Lib.hid (below_two w (.cells (tbC room age (some b)) 26) (.cells noT 26))
  have HM0 := Lib.hid (HM.out.on HB.out)
  generalize (w.alloc (.cells (tbC room age (some b)) 26)).alloc (.cells noT 26) = w0 at HA HR HB HM0 ⊢
  cases Rw3.row HA.out
  go_wp2_with fail
  refine (clone_any HM0.out).mono ?_
  rintro e w1 ⟨rfl, hm, hb⟩
  have HA1 := Lib.hid (HA.out.below hb HA.out.lt)
  have HR1 := Lib.hid (HR.out.below hb HR.out.lt)
  have HM1 := Lib.hid (HM0.out.on hb)
  have HB1 := Lib.hid (HB.out.trans (hb.mono HB.out.size))
  obtain ⟨c, hc⟩ : ∃ c, c = w0.heap.size := ⟨_, rfl⟩
  have L0 : b < c := by rw [hc]; exact HM0.out.lt
  have L1 : w.heap.size + 1 < c := by rw [hc]; exact HR.out.lt
  rw [← hc] at hm ⊢
  have HC1 := Lib.hid hm
  clear hb hm hc
  cases Rw3.row HA1.out
  obtain ⟨r, hrr⟩ : ∃ r, r = w1.heap.size := ⟨_, rfl⟩
  have L2 : c < r := by rw [hrr]; exact HC1.out.lt
  go_wp2_with (at_range; refine wpList_range_own _ rfl _ _ rfl 53 55 law Try.underlying24 Rs b l.length (toD l) rfl HM1.out ?_; intro w2 hrg0 hg0 hs0)
  rw [← hrr] at hrg0 ⊢
  have HR2 := Lib.hid (HR1.out.grown hg0 (by simp))
  have HA2 := Lib.hid (HA1.out.grown hg0 (by simp))
  have HC2 := Lib.hid (World.ownsMap.kept HC1.out hg0 (by simp))
  have HB2 := Lib.hid (HB1.out.grown hg0 HB1.out.size (fun k hk => by cases hk))
  have HG := Lib.hid hrg0
  clear hg0 hs0 hrg0 hrr
  go_frame
  go_loopw [14] (fun _ wr => ∃ (left : Lit → Bool) (cnt : Nat), wr.ranges Try.prog 53 Rs b r l.length (toD l) left cnt ∧ wr.ownsMap Try.prog 53 Rs c l.length (toD (l.filter (stay goes left))) ∧ Below w.heap.size w wr ∧ Blk wr w.heap.size 26 (tbC room age (some b)) ∧ Blk wr (w.heap.size + 1) 26 noT)
    (fun _ wr => wr.rangeLeft b r)
  case atStart => exact ⟨_, _, HG.out, by rw [stay_start goes HK.out HS.out]; exact HC2.out, HB2.out, HA2.out, HR2.out⟩
  case round =>
    obtain ⟨left, cnt, hrg, hcw, hbw, haw, hrw⟩ := hrel
    have HG0 := Lib.hid hrg; have HCw := Lib.hid hcw; have HBw := Lib.hid hbw; have HAw := Lib.hid haw; have HRw := Lib.hid hrw
    clear hrg hcw hbw haw hrw
    go_wp2_with (first
      | (at_next; refine wpList_next_ranges _ rfl _ rfl 53 law Rs mkK mkV inv_k inv_v b r l.length _ _ _ rfl HG0.out ?_ ?_)
      | go_in)
    · intro _ hl0
      have HF := Lib.hid (stay_end goes (l := l) hl0)
      clear hl0
      cases Rw3.row HAw.out
      cases Rw3.row HRw.out
      go_wp2_with fail
      refine (with_any room age (some b) (some c) _).mono ?_
      rintro e w4 ⟨rfl, hb⟩
      have hm := HCw.out
      rw [HF.out] at hm
      have HM4 := Lib.hid ((Mp.of hm).on hb)
      have HR4 := Lib.hid (HRw.out.below hb HRw.out.lt)
      have HB4 := Lib.hid (HBw.out.trans (hb.mono HBw.out.size))
      clear hb hm
      cases Rw3.row HR4.out
      go_wp2
      (try simp only [Exit.inBlock, Exit.then]); refine bodyPost_ret (results_cell_row rfl _ _ (w.heap.size + 1) 26 _ (0, 0) _ rfl (Rw3.blk_set HR4.out _ _ _) Try.underlying26 rfl info_t) rfl ?_
      exact ⟨c, rfl, by omega, HM4.out.far (by omega) _ _ _, Rw3.below_set HB4.out (by omega) _ _ _⟩
    · intro v a p s k yd yp w3 cnt1 hkey hlk hv hat hrg1 hlt hg1 hs1 hen
      obtain ⟨hx, hkl, hin⟩ := entry_row (q := (v, a)) (c := (p, s)) (y := (yd, yp)) HK.out hkey hat hv
      subst hkl
      change _ = Result.ok (Value.tuple #[keyV v a, sgV p s]) w3 at hen
      have HX : Hid (Fr.mk v a p s ∈ l) := Lib.hid hx
      have HIN : Hid (InK v a) := Lib.hid hin
      have HG3 := Lib.hid hrg1
      have HC3 := Lib.hid (World.ownsMap.kept HCw.out hg1 (by intro e; injection e; omega))
      have HB3 := Lib.hid (HBw.out.grown hg1 HBw.out.size (fun k hk => by injection hk; omega))
      have HA3 := Lib.hid (HAw.out.grown hg1 (by intro e; injection e; omega))
      have HR3 := Lib.hid (HRw.out.grown hg1 (by intro e; injection e; omega))
      have HLT := Lib.hid hlt
      have HKEY : Hid (keyOf Try.prog 53 (keyV v a) = some (kl v a)) := Lib.hid (keyK hin)
      clear hkey hlk hv hat hrg1 hg1 hs1 hx hin hlt
      go_upto_region 5 with (fail)
      obtain ⟨z, hz⟩ : ∃ z, z = w3.heap.size := ⟨_, rfl⟩
      have L3 : r < z := by rw [hz]; exact HG3.out.lt
      have HK4 := Lib.hid (blk_two w3 53 55 #[.int .u16 (v : Int), .int .u64 (a : Int)] #[.int .i64 p, .int .i64 s])
      have HS4 := Lib.hid (fresh_second w3 (.cells #[.int .u16 (v : Int), .int .u64 (a : Int)] 53) 55 #[.int .i64 p, .int .i64 s])
      have HQ := Lib.hid (below_two w3 (.cells #[.int .u16 (v : Int), .int .u64 (a : Int)] 53) (.cells #[.int .i64 p, .int .i64 s] 55))
      have HG4 := Lib.hid (HG3.out.kept (below_grow HQ.out) (by simp) (by simp))
      have HC4 := Lib.hid (World.ownsMap.kept HC3.out (below_grow HQ.out) (by simp))
      have HB4 := Lib.hid (HB3.out.trans (HQ.out.mono HB3.out.size))
      have HA4 := Lib.hid (HA3.out.below HQ.out HA3.out.lt)
      have HR4 := Lib.hid (HR3.out.below HQ.out HR3.out.lt)
      rw [← hz] at HK4 HS4 ⊢
      clear hz HQ
      generalize (w3.alloc (.cells #[.int .u16 (v : Int), .int .u64 (a : Int)] 53)).alloc (.cells #[.int .i64 p, .int .i64 s] 55) = w4 at HK4 HS4 HG4 HC4 HB4 HA4 HR4 ⊢
      have hc := HD.out w4 p s ⟨_, HX.out, rfl, rfl⟩ HB4.out
      cases Rw2.row HK4.out
      cases Rw2.row HS4.out
      cases hgo : goes p s <;> rw [hgo] at hc
      · have HGO := Lib.hid hgo
        clear hgo
        go_wp2_with (first | (go_at_fn g; refine hc.mono ?_; rintro e w5 ⟨rfl, hb⟩) | go_in)
        have HG5 := Lib.hid (HG4.out.kept (below_grow hb) (by simp) (by simp))
        have HC5 := World.ownsMap.kept HC4.out (below_grow hb) (by simp)
        rw [← stay_stays goes HK.out HS.out HX.out HGO.out] at HC5
        have HC5 := Lib.hid HC5
        have HB5 := Lib.hid (HB4.out.trans (hb.mono HB4.out.size))
        have HA5 := Lib.hid (HA4.out.below hb HA4.out.lt)
        have HR5 := Lib.hid (HR4.out.below hb HR4.out.lt)
        clear hb hc
        go_roundw
        case rel => exact ⟨_, cnt1, HG5.out, HC5.out, HB5.out, HA5.out, HR5.out⟩
        case measure => rw [HG5.out.left_eq, HG0.out.left_eq]; exact HLT.out
      · have HGO := Lib.hid hgo
        clear hgo
        go_wp2_with (first
          | (go_at_fn g; refine hc.mono ?_; rintro e w5 ⟨rfl, hb⟩; have HC5 := Lib.hid (World.ownsMap.kept HC4.out (below_grow hb) (by simp)); cases Rw2.row (HK4.out.below hb HK4.out.lt))
          | (at_delete; refine wpList_delete_own _ rfl _ _ _ _ rfl 55 law Try.underlying24 Rs c _ _ rfl HC5.out _ _ rfl HKEY.out ?_; intro w6 hm hturn; go_frame)
          | go_in)
        have HG5 := HG4.out.kept (below_grow hb) (by simp) (by simp)
        have HB5 := HB4.out.trans (hb.mono HB4.out.size)
        have HA5 := HA4.out.below hb HA4.out.lt
        have HR5 := HR4.out.below hb HR4.out.lt
        have hg := hturn.grown
        have HG6 := Lib.hid (HG5.kept hg (by intro e; injection e; omega) (by intro e; injection e; omega))
        rw [stay_goes goes HK.out HS.out HX.out HGO.out] at hm
        have HC6 := Lib.hid hm
        have HB6 := Lib.hid (HB5.grown hg HB5.size (fun k hk => by injection hk; omega))
        have HA6 := Lib.hid (HA5.grown hg (by intro e; injection e; omega))
        have HR6 := Lib.hid (HR5.grown hg (by intro e; injection e; omega))
        clear hb hc HG5 HB5 HA5 HR5 hg hturn hm
        go_roundw
        case rel => exact ⟨_, cnt1, HG6.out, HC6.out, HB6.out, HA6.out, HR6.out⟩
        case measure => rw [HG6.out.left_eq, HG0.out.left_eq]; exact HLT.out

set_option maxRecDepth 100000 in
set_option maxHeartbeats 1000000 in
theorem sweep_one {room age p s now y : Int} {b : Option Nat} {g k : Nat} {W : World} (hA : Blk W g 26 (tbC room age b)) (hN : Blk W k 2 #[.int .i64 now]) (hy : IntKind.i64.wrap (s + age) = y) :
    Calls Try.prog 28 (#[sgV p s] ++ #[.pointer (some ⟨g, 0, none⟩), .pointer (some ⟨k, 0, none⟩)]) W fun e w' => e = .returned (.bool (decide (y ≤ now))) ∧ Below W.heap.size W w' := by
  have HA := Lib.hid (hA.alloc (.cells #[.int .i64 p, .int .i64 s] 55))
  have HN := Lib.hid (hN.alloc (.cells #[.int .i64 p, .int .i64 s] 55))
  have HP := Lib.hid (Blk.fresh W 55 #[.int .i64 p, .int .i64 s])
  have HB := Lib.hid ((Below.refl W.heap.size W).alloc (Nat.le_refl _) (.cells #[.int .i64 p, .int .i64 s] 55))
  have HY := Lib.hid hy
  clear hA hN hy
  go_enter Try.func28, Try.ntmps28
  go_upto_region 1 with (fail)
  generalize W.alloc (.cells #[.int .i64 p, .int .i64 s] 55) = w0 at HA HN HP HB ⊢
  cases Rw3.row HA.out
  cases Rw2.row HP.out
  have n0 := HN.out.cell 0
  simp only [List.getElem?_toArray, List.getElem?_cons_zero] at n0
  go_wp2_with fail
  refine (old_any room age p s now y b _ HY.out).mono ?_
  rintro e w1 ⟨rfl, hb⟩
  have HB1 := Lib.hid (HB.out.trans (hb.mono HB.out.size))
  clear hb
  go_wp2
  go_ret
  exact ⟨rfl, HB1.out⟩

set_option maxRecDepth 100000 in
set_option maxHeartbeats 1000000 in
theorem flush_neg {p s port : Int} {k : Nat} {W : World} (hN : Blk W k 3 #[.int .i64 port]) (hd : decide (port < 0) = true) :
    Calls Try.prog 29 (#[sgV p s] ++ #[.pointer (some ⟨k, 0, none⟩)]) W fun e w' => e = .returned (.bool true) ∧ Below W.heap.size W w' := by
  have HN := Lib.hid (hN.alloc (.cells #[.int .i64 p, .int .i64 s] 55))
  have HP := Lib.hid (Blk.fresh W 55 #[.int .i64 p, .int .i64 s])
  have HB := Lib.hid ((Below.refl W.heap.size W).alloc (Nat.le_refl _) (.cells #[.int .i64 p, .int .i64 s] 55))
  clear hN
  go_enter Try.func29, Try.ntmps29
  go_upto_region 1 with (fail)
  generalize W.alloc (.cells #[.int .i64 p, .int .i64 s] 55) = w0 at HN HP HB ⊢
  cases Rw2.row HP.out
  have n0 := HN.out.cell 0
  simp only [List.getElem?_toArray, List.getElem?_cons_zero] at n0
  go_wp2
  go_ret
  exact ⟨rfl, HB.out⟩

set_option maxRecDepth 100000 in
set_option maxHeartbeats 1000000 in
theorem flush_pos {p s port : Int} {k : Nat} {W : World} (hN : Blk W k 3 #[.int .i64 port]) (hd : decide (port < 0) = false) {c : Bool} (hc : (p == port) = c) :
    Calls Try.prog 29 (#[sgV p s] ++ #[.pointer (some ⟨k, 0, none⟩)]) W fun e w' => e = .returned (.bool c) ∧ Below W.heap.size W w' := by
  have HN := Lib.hid (hN.alloc (.cells #[.int .i64 p, .int .i64 s] 55))
  have HP := Lib.hid (Blk.fresh W 55 #[.int .i64 p, .int .i64 s])
  have HB := Lib.hid ((Below.refl W.heap.size W).alloc (Nat.le_refl _) (.cells #[.int .i64 p, .int .i64 s] 55))
  clear hN
  go_enter Try.func29, Try.ntmps29
  go_upto_region 1 with (fail)
  generalize W.alloc (.cells #[.int .i64 p, .int .i64 s] 55) = w0 at HN HP HB ⊢
  cases Rw2.row HP.out
  have n0 := HN.out.cell 0
  simp only [List.getElem?_toArray, List.getElem?_cons_zero] at n0
  go_wp2
  go_ret
  exact ⟨rfl, HB.out⟩

/-- without old rows -/
def sweepR (l : List Fr) (now age : Int) : List Fr := l.filter (fun x => decide (now - x.seen < age))
/-- without a port's rows -/
def flushR (l : List Fr) (port : Int) : List Fr := l.filter (fun x => decide (0 ≤ port) && (x.port != port))

set_option maxRecDepth 100000 in
set_option maxHeartbeats 1000000 in
theorem sweep_any {room age now : Int} {b : Nat} {l : List Fr} {w : World} (h : Mp w b l) (hr : Rising l) (hk : ∀ x ∈ l, okK x) (hs : ∀ x ∈ l, 0 ≤ x.seen ∧ x.seen ≤ 1099511627776) (ha : 0 ≤ age ∧ age ≤ 1048576) :
    Calls Try.prog 11 #[tbV room age (some b), .int .i64 now] w fun e w' => ∃ b', e = .returned (tbV room age (some b')) ∧ Mp w' b' (sweepR l now age) ∧ Below w.heap.size w w' := by
  have eg : ∀ args w, (callFunc 28 args).run Try.prog w = .ok (.enter 28 args) w := enters_of Try.func28 (by kernel_rfl) rfl
  have HM := Lib.hid h; have HS := Lib.hid hr; have HK := Lib.hid hk; have HV := Lib.hid hs; have HG := Lib.hid ha
  clear h hr hk hs ha
  go_enter Try.func11, Try.ntmps11
  go_upto_region 1 with (fail)
  have HA := Lib.hid ((blk_two w 26 2 (tbC room age (some b)) #[.int .i64 now]).alloc (.cells noT 26))
  have HN := Lib.hid ((fresh_second w (.cells (tbC room age (some b)) 26) 2 #[.int .i64 now]).alloc (.cells noT 26))
  have HR := Lib.hid (blk_last w (.cells (tbC room age (some b)) 26) (.cells #[.int .i64 now] 2) 26 noT)
  have HB := Lib.hid (below_three w (.cells (tbC room age (some b)) 26) (.cells #[.int .i64 now] 2) (.cells noT 26))
  have HM0 := Lib.hid (HM.out.on HB.out)
  generalize ((w.alloc (.cells (tbC room age (some b)) 26)).alloc (.cells #[.int .i64 now] 2)).alloc (.cells noT 26) = w0 at HA HN HR HB HM0 ⊢
  have HC : Aside _ := without_any 28 #[.pointer (some ⟨w.heap.size, 0, none⟩), .pointer (some ⟨w.heap.size + 1, 0, none⟩)] (fun _ s => decide (s + age ≤ now)) (room := room) (age := age) eg HM0.out HS.out HK.out (by
    rintro W p s ⟨x, hx, rfl, rfl⟩ hb
    have h1 := HV.out x hx
    have h2 := HG.out
    exact sweep_one (HA.out.below hb HA.out.lt) (HN.out.below hb HN.out.lt) (by rw [IntKind.wrap_i64]; omega))
  clear eg
  cases Rw3.row HA.out
  go_wp2_with fail
  refine Calls.mono HC.out ?_
  rintro e w1 ⟨b', rfl, hl, hm, hb⟩
  have HR1 := Lib.hid (HR.out.below hb HR.out.lt)
  have HB1 := Lib.hid (HB.out.trans (hb.mono HB.out.size))
  have L1 : b' ≠ w.heap.size + 2 := by have := HR.out.lt; omega
  have hres : l.filter (fun x => !(decide (x.seen + age ≤ now))) = sweepR l now age := List.filter_congr fun x _ => by rw [← decide_not, decide_eq_decide]; omega
  rw [hres] at hm
  have HM1 := Lib.hid hm
  clear hb hm hl
  cases Rw3.row HR1.out
  go_wp2
  (try simp only [Exit.inBlock, Exit.then]); refine bodyPost_ret (results_cell_row rfl _ _ (w.heap.size + 2) 26 _ (0, 0) _ rfl (Rw3.blk_set HR1.out _ _ _) Try.underlying26 rfl info_t) rfl ?_
  exact ⟨b', rfl, HM1.out.far L1 _ _ _, Rw3.below_set HB1.out (by omega) _ _ _⟩

set_option maxRecDepth 100000 in
set_option maxHeartbeats 1000000 in
theorem flush_any {room age port : Int} {b : Nat} {l : List Fr} {w : World} (h : Mp w b l) (hr : Rising l) (hk : ∀ x ∈ l, okK x) :
    Calls Try.prog 13 #[tbV room age (some b), .int .i64 port] w fun e w' => ∃ b', e = .returned (tbV room age (some b')) ∧ Mp w' b' (flushR l port) ∧ Below w.heap.size w w' := by
  have eg : ∀ args w, (callFunc 29 args).run Try.prog w = .ok (.enter 29 args) w := enters_of Try.func29 (by kernel_rfl) rfl
  have HM := Lib.hid h; have HS := Lib.hid hr; have HK := Lib.hid hk
  clear h hr hk
  go_enter Try.func13, Try.ntmps13
  go_upto_region 1 with (fail)
  have HA := Lib.hid ((blk_two w 26 3 (tbC room age (some b)) #[.int .i64 port]).alloc (.cells noT 26))
  have HN := Lib.hid ((fresh_second w (.cells (tbC room age (some b)) 26) 3 #[.int .i64 port]).alloc (.cells noT 26))
  have HR := Lib.hid (blk_last w (.cells (tbC room age (some b)) 26) (.cells #[.int .i64 port] 3) 26 noT)
  have HB := Lib.hid (below_three w (.cells (tbC room age (some b)) 26) (.cells #[.int .i64 port] 3) (.cells noT 26))
  have HM0 := Lib.hid (HM.out.on HB.out)
  generalize ((w.alloc (.cells (tbC room age (some b)) 26)).alloc (.cells #[.int .i64 port] 3)).alloc (.cells noT 26) = w0 at HA HN HR HB HM0 ⊢
  have HC : Aside _ := without_any 29 #[.pointer (some ⟨w.heap.size + 1, 0, none⟩)] (fun p _ => decide (port < 0) || p == port) (room := room) (age := age) eg HM0.out HS.out HK.out (by
    rintro W p s ⟨x, hx, rfl, rfl⟩ hb
    by_cases hd : port < 0
    · rw [show (decide (port < 0) || x.port == port) = true by simp [hd]]
      exact flush_neg (HN.out.below hb HN.out.lt) (decide_eq_true hd)
    · rw [show (decide (port < 0) || x.port == port) = (x.port == port) by simp [hd]]
      exact flush_pos (HN.out.below hb HN.out.lt) (decide_eq_false hd) rfl)
  clear eg
  cases Rw3.row HA.out
  go_wp2_with fail
  refine Calls.mono HC.out ?_
  rintro e w1 ⟨b', rfl, hl, hm, hb⟩
  have HR1 := Lib.hid (HR.out.below hb HR.out.lt)
  have HB1 := Lib.hid (HB.out.trans (hb.mono HB.out.size))
  have L1 : b' ≠ w.heap.size + 2 := by have := HR.out.lt; omega
  have hres : l.filter (fun x => !(decide (port < 0) || x.port == port)) = flushR l port := List.filter_congr fun x _ => by rw [Bool.not_or, ← decide_not]; congr 1; rw [decide_eq_decide]; omega
  rw [hres] at hm
  have HM1 := Lib.hid hm
  clear hb hm hl
  cases Rw3.row HR1.out
  go_wp2
  (try simp only [Exit.inBlock, Exit.then]); refine bodyPost_ret (results_cell_row rfl _ _ (w.heap.size + 2) 26 _ (0, 0) _ rfl (Rw3.blk_set HR1.out _ _ _) Try.underlying26 rfl info_t) rfl ?_
  exact ⟨b', rfl, HM1.out.far L1 _ _ _, Rw3.below_set HB1.out (by omega) _ _ _⟩

end Go.Proofs.Ytljkodfdiebfiaa.Fd
