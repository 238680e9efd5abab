/-
  Tables, the program's: Rows.
-/
import Derived.Test.YtljkodfdiebfiaaFdbE
import Derived.Test.YtljkodfdiebfiaaFdbG
import Derived.Laws.MakeOwn
import Derived.Laws.OwnMore
import Derived.Sort.OwnSorted
namespace Go.Proofs.Ytljkodfdiebfiaa.Fd
open Go.RowKit Go.Maps Go.Sort Go.Proofs.Ytljkodfdiebfiaa.Mm Go.Proofs.Ytljkodfdiebfiaa.Tg

theorem flat_at (l : List Fr) (j : Nat) (hj : j < l.length * 4) : (rowCs l)[j]? = some (flatK e4 4 l.toArray)[j]! := by
  have hi : j / 4 < l.length := by omega
  have hx : l[j / 4]? = some l[j / 4] := List.getElem?_eq_getElem hi
  have h1 := rowCs_at l (j / 4) (j % 4) _ hx (by omega)
  rw [show j / 4 * 4 + j % 4 = j by omega] at h1
  rw [h1, get_flatK _ _ _ _ (by simpa using hj), getElem!_pos l.toArray (j / 4) (by simpa using hi)]
  have h4 : j % 4 < (e4 l[j / 4]).length := by rw [e4_len]; omega
  rw [List.getElem?_eq_getElem h4]
  simp only [List.getElem_toArray]
  exact congrArg some (getElem!_pos (e4 l[j / 4]) (j % 4) h4).symm
theorem holds_own {w : World} {base g cap : Nat} {e : TypeId} {d : List Fr} (h : w.ownsRow base e 4 (.slice (some ⟨g, 0, none⟩) d.length cap) d.length (rowCs d)) : HoldsK e4 4 w g 0 d.toArray := by
  intro j hj
  have hj' : j < d.length * 4 := by simpa using hj
  rw [Nat.zero_add]
  exact ⟨by rw [h.cellAt j hj', flat_at d j hj']; rfl, h.frozenAt j⟩
theorem holds_rd {w : World} {g : Nat} {l : List Fr} (h : HoldsK e4 4 w g 0 l.toArray) (hg : g < w.heap.size) : Rd w w.heap.size (some ⟨g, 0, none⟩) (rowCs l) := fun _ => by
  refine ⟨_, rfl, hg, fun j u hu => ?_⟩
  have hj : j < l.length * 4 := by rw [← rowCs_len]; exact (List.getElem?_eq_some_iff.1 hu).1
  rw [flat_at l j hj] at hu
  injection hu with hu
  have := (h j (by simpa using hj)).1
  rw [Nat.zero_add] at this
  rw [show (Addr.mk g 0 none).add j = ⟨g, j, none⟩ by unfold Addr.add; split <;> simp_all, this, ← hu]
  rfl
/-- what a range has met so far -/
def Coll (l d : List Fr) (left : Lit → Bool) : Prop := d.Perm (l.filter (fun x => !left (kl x.vlan x.addr)))
theorem coll_start {l : List Fr} (hk : ∀ x ∈ l, okK x) (hr : Rising l) : Coll l [] (Maps.has (toD l)) := by
  unfold Coll
  rw [List.filter_eq_nil_iff.2]
  intro x hx
  rw [toD_has (hk x hx) hk, (find_some hr).2 ⟨hx, rfl, rfl⟩]
  simp
theorem coll_end {l d : List Fr} {left : Lit → Bool} (h : Coll l d left) (h0 : ∀ k, left k = false) : d.Perm l := by
  unfold Coll at h
  rwa [List.filter_eq_self.2 (fun x _ => by rw [h0]; rfl)] at h
theorem perm_more {X : Fr} (p : Fr → Bool) (hp : p X = false) : ∀ {l : List Fr}, Rising l → X ∈ l → (l.filter (fun x => p x || decide (x = X))).Perm (X :: l.filter p)
  | y :: l, hr, hX => by
    obtain ⟨h1, h2⟩ := List.pairwise_cons.1 hr
    rcases List.mem_cons.1 hX with e | hX
    · subst e
      have hn : l.filter (fun x => p x || decide (x = X)) = l.filter p := List.filter_congr fun x hx => by
        have : x ≠ X := fun e => klt_ne (h1 x hx) (e ▸ ⟨rfl, rfl⟩)
        simp [this]
      rw [List.filter_cons_of_pos (by simp), List.filter_cons_of_neg (by simp [hp]), hn]
    · have ih := perm_more p hp h2 hX
      have hne : y ≠ X := fun e => klt_ne (h1 X hX) (e ▸ ⟨rfl, rfl⟩)
      by_cases hy : p y = true
      · rw [List.filter_cons_of_pos (by simp [hy]), List.filter_cons_of_pos hy]
        exact (ih.cons y).trans (List.Perm.swap _ _ _)
      · rw [List.filter_cons_of_neg (by simp [hy, hne]), List.filter_cons_of_neg hy]
        exact ih
theorem coll_step {l d : List Fr} {left : Lit → Bool} (h : Coll l d left) (hk : ∀ x ∈ l, okK x) (hr : Rising l) {X : Fr} (hX : X ∈ l) (hl : left (kl X.vlan X.addr) = true) : Coll l (d ++ [X]) (fun z => left z && !z.sameKey (kl X.vlan X.addr)) := by
  unfold Coll at h ⊢
  have e : l.filter (fun x => !(left (kl x.vlan x.addr) && !(kl x.vlan x.addr).sameKey (kl X.vlan X.addr))) = l.filter (fun x => !left (kl x.vlan x.addr) || decide (x = X)) := List.filter_congr fun x hx => by
    rw [kl_same (hk x hx) (hk X hX)]
    by_cases g : x.vlan = X.vlan ∧ x.addr = X.addr
    · have := one_row hr hx hX g
      simp [this]
    · have : x ≠ X := fun e => g (e ▸ ⟨rfl, rfl⟩)
      simp [g, this]
  rw [e]
  exact (List.perm_append_singleton X d).trans ((h.cons X).trans (perm_more _ (by simp [hl]) hr hX).symm)
theorem coll_len {l d : List Fr} {left : Lit → Bool} (h : Coll l d left) : d.length ≤ l.length := by
  rw [List.Perm.length_eq h]; exact List.length_filter_le _ _
theorem info_row : (Try.prog.info? 57).map (fun i => (i.zero, i.size, i.bytes)) = some (some (.agg #[.int .u16 0, .int .u64 0, .int .i64 0, .int .i64 0]), 4, 32) := by kernel_rfl
theorem grown_below {w w' : World} (h : w.grownBy w' none) : Below w.heap.size w w' := ⟨h.os, h.tape, h.output, h.size, fun k hk => h.block k hk (by simp)⟩

set_option maxRecDepth 100000 in
set_option maxHeartbeats 4000000 in
theorem rows_any {room age : Int} {b : Nat} {l : List Fr} {w : World} (h : Mp w b l) (hr : Rising l) (hk : ∀ x ∈ l, okK x) (hn : l.length ≤ 1024) :
    Calls Try.prog 6 #[tbV room age (some b)] w fun e w' => ∃ A c, e = .returned (.slice A l.length c) ∧ Rd w' w'.heap.size A (rowCs l) ∧ Below w.heap.size w w' := by
  have HM := Lib.hid h; have HS := Lib.hid hr; have HK := Lib.hid hk
  clear h hr hk
  obtain ⟨i0, hi, hz0, hz1, hz2⟩ := info_parts info_row
  go_enter Try.func6, Try.ntmps6
  go_upto_region 1 with (fail)
  have HA := Lib.hid (Blk.fresh w 26 (tbC room age (some b)))
  have HB := Lib.hid ((Below.refl w.heap.size w).alloc (Nat.le_refl _) (.cells (tbC room age (some b)) 26))
  have HM0 := Lib.hid (HM.out.alloc (.cells (tbC room age (some b)) 26))
  generalize w.alloc (.cells (tbC room age (some b)) 26) = w0 at HA HB HM0 ⊢
  have hlen := HM0.out.len
  obtain ⟨base, hbase⟩ : ∃ base, base = w0.heap.size := ⟨_, rfl⟩
  have L0 : b < base := by rw [hbase]; exact HM0.out.lt
  have L1 : w.heap.size < base := by rw [hbase]; exact HA.out.lt
  cases Rw3.row HA.out
  go_upto_region 2 with (first
    | (at_make; refine wpList_make_own _ rfl _ _ 30 rfl base 57 i0 _ 4 Try.underlying30 hi hz0 hz1 .i64 .i64 _ l.length rfl rfl rfl (by rw [hz2]; omega) (by unfold maxLen; omega) (by omega) ?_; intro w1 hown hg)
    | go_in)
  rw [← hbase] at hown ⊢
  have HA1 := Lib.hid (HA.out.grown hg (by simp))
  have HB1 := Lib.hid (HB.out.grown hg HB.out.size (fun k hk => by cases hk))
  have HM1 := Lib.hid (HM0.out.on (grown_below hg))
  have HO1 := Lib.hid hown
  have L2 : base < w1.heap.size := (hown.lt base rfl).2
  clear hg hown hbase hlen
  obtain ⟨r, hrr⟩ : ∃ r, r = w1.heap.size := ⟨_, rfl⟩
  have L3 : base < r := by rw [hrr]; exact L2
  clear L2
  cases Rw3.row HA1.out
  go_wp2_with (at_range; refine wpList_range_own _ rfl _ _ rfl 53 55 law Try.underlying24 Rs b l.length (toD l) rfl HM1.out ?_; intro w2 hrg0 hg0 hs0)
  rw [← hrr] at hrg0 ⊢
  have HA2 := Lib.hid (HA1.out.grown hg0 (by simp))
  have HB2 := Lib.hid (HB1.out.grown hg0 HB1.out.size (fun k hk => by cases hk))
  have HO2 := Lib.hid (own_below HO1.out (grown_below hg0))
  have HG := Lib.hid hrg0
  clear hg0 hs0 hrg0 hrr
  go_frame
  go_loopw [3, 13] (fun v _ wr => ∃ (left : Lit → Bool) (cnt : Nat) (d : List Fr) (g rc : Nat), v = .slice (some ⟨g, 0, none⟩) d.length rc ∧ Coll l d left ∧ wr.ranges Try.prog 53 Rs b r l.length (toD l) left cnt ∧ wr.ownsRow base 57 4 (.slice (some ⟨g, 0, none⟩) d.length rc) d.length (rowCs d) ∧ RowKit.Below w.heap.size w wr)
    (fun _ _ wr => wr.rangeLeft b r)
  case atStart => exact ⟨_, _, [], base, l.length, rfl, coll_start HK.out HS.out, HG.out, HO2.out, HB2.out⟩
  case round =>
    obtain ⟨left, cnt, d, g, rc, rfl, hco, hrg, hown, hbw⟩ := hrel
    have HG0 := Lib.hid hrg; have HOw := Lib.hid hown; have HBw := Lib.hid hbw; have HCO := Lib.hid hco
    clear hrg hown hbw hco
    go_wp2_with (first
      | (at_next; refine wpList_next_ranges _ rfl _ rfl 53 law Rs mkK mkV inv_k inv_v b r l.length _ _ _ rfl HG0.out ?_ ?_)
      | go_in)
    · intro _ hl0
      have hp := coll_end HCO.out hl0
      have hlen := hp.length_eq
      have HC : Aside _ := sort_any (w := wr) (g := g) (cap := rc) hp HS.out (holds_own HOw.out) (HOw.out.lt g rfl).2 (by omega)
      rw [hlen] at HC HOw ⊢
      clear hl0 hp
      go_wp2_with fail
      refine Calls.mono HC.out ?_
      rintro e w4 ⟨rfl, hh, hg⟩
      have hgl := HOw.out.lt g rfl
      have L4 : g < w4.heap.size := Nat.lt_of_lt_of_le hgl.2 hg.size
      have HH := Lib.hid hh
      have HB4 := Lib.hid (HBw.out.grown hg HBw.out.size (fun k hk => by injection hk; omega))
      clear hh hg hgl HC
      go_wp2
      go_ret
      exact ⟨_, _, rfl, holds_rd HH.out L4, HB4.out⟩
    · intro v a p s k yd yp w3 cnt1 hkey hlk hv hat hrg1 hlt hg1 hs1 hen
      obtain ⟨hx, hkl, hin⟩ := entry_row (q := (v, a)) (c := (p, s)) (y := (yd, yp)) HK.out hkey hat hv
      subst hkl
      change _ = Result.ok (Value.tuple #[keyV v a, sgV p s]) w3 at hen
      have hco3 := coll_step HCO.out HK.out HS.out hx hlk
      have hd := coll_len hco3
      rw [List.length_append, List.length_singleton] at hd
      have HCO3 := Lib.hid hco3
      have HG3 := Lib.hid hrg1
      have HO3 := Lib.hid (HOw.out.kept hg1 (.inr (fun e => row_ne_iter HOw.out HG0.out e.symm)))
      have HB3 := Lib.hid (HBw.out.grown hg1 HBw.out.size (fun k hk => by injection hk; omega))
      have HLT := Lib.hid hlt
      clear hkey hlk hv hat hrg1 hg1 hs1 hx hin hlt hco3
      go_upto_region 5 with (fail)
      obtain ⟨z, hz⟩ : ∃ z, z = w3.heap.size := ⟨_, rfl⟩
      have L4 : r < z := by rw [hz]; exact HG3.out.lt
      have HK4 := Lib.hid (blk_two w3 53 55 #[.int .u16 (v : Int), .int .u64 (a : Int)] #[.int .i64 p, .int .i64 s])
      have HS4 := Lib.hid (fresh_second w3 (.cells #[.int .u16 (v : Int), .int .u64 (a : Int)] 53) 55 #[.int .i64 p, .int .i64 s])
      have HQ := Lib.hid (below_two w3 (.cells #[.int .u16 (v : Int), .int .u64 (a : Int)] 53) (.cells #[.int .i64 p, .int .i64 s] 55))
      have HG4 := Lib.hid (HG3.out.kept (below_grow HQ.out) (by simp) (by simp))
      have HO4 := Lib.hid (own_below HO3.out HQ.out)
      have HB4 := Lib.hid (HB3.out.trans (HQ.out.mono HB3.out.size))
      rw [← hz] at HK4 HS4 ⊢
      clear hz HQ
      generalize (w3.alloc (.cells #[.int .u16 (v : Int), .int .u64 (a : Int)] 53)).alloc (.cells #[.int .i64 p, .int .i64 s] 55) = w4 at HK4 HS4 HG4 HO4 HB4 ⊢
      have L5 : base ≤ w4.heap.size := by have := HG4.out.lt; omega
      cases Rw2.row HK4.out
      cases Rw2.row HS4.out
      go_wp2_with (at_builtin; refine wpList_append_own _ rfl (.tmp 18) (.tmp 28) 30 rfl base 57 i0 (.agg #[.int .u16 0, .int .u64 0, .int .i64 0, .int .i64 0]) 4 32 Try.underlying30 hi hz0 hz1 hz2 rfl (by decide) _ _ _ rfl (HO4.out.alloc _) ⟨w4.heap.size, 0, none⟩ 1 1 (e4 ⟨v, a, p, s⟩) rfl rfl (cells_new _ _ _ _ _ rfl rfl) (e4_one _) (by unfold maxLen; omega) (by omega) (by simp; omega) ?_; intro v' w5 hown' hgrow _)
      have HO5 := Lib.hid hown'
      have hlo := (HO4.out.alloc (.cells (e4 ⟨v, a, p, s⟩).toArray 57)).lt
      have HG5 := Lib.hid ((HG4.out.alloc (.cells (e4 ⟨v, a, p, s⟩).toArray 57)).kept hgrow (row_ne_low (HO4.out.alloc (.cells (e4 ⟨v, a, p, s⟩).toArray 57)) L0) (row_ne_iter (HO4.out.alloc (.cells (e4 ⟨v, a, p, s⟩).toArray 57)) (HG4.out.alloc _)))
      have HB5 := Lib.hid ((HB4.out.alloc HB4.out.size (.cells (e4 ⟨v, a, p, s⟩).toArray 57)).grown hgrow (HB4.out.alloc HB4.out.size _).size (fun k hk => by have := (hlo k hk).1; omega))
      obtain ⟨g', c', rfl, _, _⟩ := hown'.form (by omega)
      clear hown' hgrow hlo
      go_roundw
      case rel => exact ⟨_, cnt1, d ++ [⟨v, a, p, s⟩], g', c', by rw [List.length_append]; rfl, HCO3.out, HG5.out, by rw [List.length_append, rowCs_app, rowCs_one]; exact HO5.out, HB5.out⟩
      case measure => rw [HG5.out.left_eq, HG0.out.left_eq]; exact HLT.out

set_option maxRecDepth 100000 in
set_option maxHeartbeats 2000000 in
theorem rows_nil (w : World) :
    Calls Try.prog 6 #[tbV 0 0 none] w fun e w' => ∃ A c, e = .returned (.slice A 0 c) ∧ RowKit.Below w.heap.size w w' := by
  obtain ⟨i0, hi, hz0, hz1, hz2⟩ := info_parts info_row
  go_enter Try.func6, Try.ntmps6
  go_upto_region 1 with (fail)
  have HA := Lib.hid (Blk.fresh w 26 (tbC 0 0 none))
  have HB := Lib.hid ((Below.refl w.heap.size w).alloc (Nat.le_refl _) (.cells (tbC 0 0 none) 26))
  generalize w.alloc (.cells (tbC 0 0 none) 26) = w0 at HA HB ⊢
  have hlen := fun ty => Maps.len_nil (w := w0) Try.underlying24 ty
  obtain ⟨base, hbase⟩ : ∃ base, base = w0.heap.size := ⟨_, rfl⟩
  have L1 : w.heap.size < base := by rw [hbase]; exact HA.out.lt
  cases Rw3.row HA.out
  go_upto_region 2 with (first
    | (at_make; refine wpList_make_own _ rfl _ _ 30 rfl base 57 i0 _ 4 Try.underlying30 hi hz0 hz1 .i64 .i64 _ 0 rfl rfl rfl (by rw [hz2]; omega) (by unfold maxLen; omega) (by omega) ?_; intro w1 hown hg)
    | go_in)
  rw [← hbase] at hown ⊢
  have HA1 := Lib.hid (HA.out.grown hg (by simp))
  have HB1 := Lib.hid (HB.out.grown hg HB.out.size (fun k hk => by cases hk))
  have L2 : base < w1.heap.size := (hown.lt base rfl).2
  clear hg hown hbase hlen
  have hrg := run_range_nilMap (P := Try.prog) w1 24 _ _ Try.underlying24
  have hnx : ∀ ty, (Instr.next (.pointer (some ⟨w1.heap.size, 0, none⟩)) false ty).run Try.prog (w1.alloc (.mapIter none 0 #[] 0)) = _ := fun ty => run_next_nilMap _ ty 0 0 #[]
  have HC : Aside _ := sort_any (w := w1.alloc (.mapIter none 0 #[] 0)) (g := base) (cap := 0) (d := []) (l := []) (List.Perm.refl _) List.Pairwise.nil (fun j hj => by simp at hj) (by simp; omega) (by simp)
  cases Rw3.row HA1.out
  go_wp2
  refine wp_loop_rounds 1 ?_
  rw [rounds_succ]
  go_wp2_with fail
  refine Calls.mono HC.out ?_
  rintro e w4 ⟨rfl, _, hg⟩
  have HB4 := Lib.hid ((HB1.out.alloc HB1.out.size (.mapIter none 0 #[] 0)).grown hg (HB1.out.alloc HB1.out.size _).size (fun k hk => by injection hk; omega))
  clear hg HC
  go_wp2
  go_ret
  exact ⟨_, _, rfl, HB4.out⟩
end Go.Proofs.Ytljkodfdiebfiaa.Fd
