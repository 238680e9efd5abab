/-
  Watch: both sides of New, Tick and Hear at once; a watch that says what it should; the example.
-/
import Derived.Test.YtlbnigdindpnfaaWaN
import Derived.Test.YtlbnigdindpnfaaWaH
import Derived.Test.YtlbnigdindpnfaaCmH
namespace Go.Proofs.Ytlbnigdindpnfaa.Wa
open Go.RowKit Go.Proofs.Ytlbnigdindpnfaa.Bt Go.Proofs.Ytlbnigdindpnfaa.Mm Go.Proofs.Ytlbnigdindpnfaa.Fl Go.Proofs.Ytlbnigdindpnfaa.Lw Go.Proofs.Ytlbnigdindpnfaa.Tg Go.Proofs.Ytlbnigdindpnfaa.Oa Go.Proofs.Ytlbnigdindpnfaa.Cc

/-- what a message that is as it should be closes to -/
theorem closeC_good {lo : Bool} {p c e l : Nat} {g : List UInt8} (hp : 1 ≤ p ∧ p ≤ 7) (he : 1 ≤ e ∧ e ≤ 8191) (hl : l ≤ 7) (hg : g.length = 48) : ∃ bs, closeC ⟨lo, p, c, e, g⟩ l = (bs, 0) ∧ bs.length = 75 := by
  have h : ∃ bs, closeC ⟨lo, p, c, e, g⟩ l = (bs, 0) := by
    unfold closeC
    rw [if_neg (by unfold badC; simp only; omega), if_neg (by simpa using hg)]
    unfold closeO
    rw [if_neg (by simp only; omega), if_neg (by simp only [length_content (m := ⟨lo, p, c, e, g⟩) hg]; simp)]
    exact ⟨_, rfl⟩
  obtain ⟨bs, h⟩ := h
  exact ⟨bs, h, length_closed h⟩

theorem new_both (lv e p : Nat) (g : ByteArray) (iv now : Int) : ∃ k : Int,
    (k ≠ 0 ∧ (∀ w, Calls Try.prog 7 #[.int .u8 (lv : Int), .int .u16 (e : Int), .int .u8 (p : Int), .string g, .int .i64 iv, .int .i64 now] w fun x w' => x = .returned (.tuple #[noneWV, .int .i64 k]) ∧ Below w.heap.size w w')
      ∧ (∀ w, Calls Try.prog 8 #[wtV lv e p g iv 0 0 0 false false, .int .i64 now] w fun x w' => x = .returned (.tuple #[noneWV, .int .i64 k]) ∧ Below w.heap.size w w')) ∨
    (k = 0 ∧ okI iv ∧ okN now ∧ (∀ w, Calls Try.prog 7 #[.int .u8 (lv : Int), .int .u16 (e : Int), .int .u8 (p : Int), .string g, .int .i64 iv, .int .i64 now] w fun x w' => x = .returned (.tuple #[wtV lv e p g iv now now 0 false false, .int .i64 0]) ∧ Below w.heap.size w w')
      ∧ (∀ w, Calls Try.prog 8 #[wtV lv e p g iv 0 0 0 false false, .int .i64 now] w fun x w' => x = .returned (.tuple #[wtV lv e p g iv now now 0 false false, .int .i64 0]) ∧ Below w.heap.size w w')) := by
  obtain ⟨bs, r, h⟩ : ∃ bs r, closeC ⟨false, p, 0, e, g.data.toList⟩ lv = (bs, r) := ⟨_, _, rfl⟩
  by_cases hr : r = 0
  · by_cases hi : okI iv
    · by_cases hn : okN now
      · have h0 := h
        rw [hr] at h0
        obtain ⟨_, hg, _⟩ := closeC_zero h0
        refine ⟨0, .inr ⟨rfl, hi, hn, fun w => new_ok lv e p g iv now w h hr hi hn (by rw [← size_list]; exact hg), fun w => rnew_ok lv e p g iv now w h hr ?_ ?_ ?_ ?_⟩⟩
        all_goals (unfold okI at hi; unfold okN at hn; omega)
      · refine ⟨4, .inl ⟨by decide, fun w => new_badN lv e p g iv now w h hr hi hn, fun w => ?_⟩⟩
        unfold okI at hi
        unfold okN at hn
        by_cases h4 : now < 0
        · exact rnew_badN1 lv e p g iv now w h hr (by omega) (by omega) h4
        · exact rnew_badN2 lv e p g iv now w h hr (by omega) (by omega) h4 (by omega)
    · refine ⟨4, .inl ⟨by decide, fun w => new_badI lv e p g iv now w h hr hi, fun w => ?_⟩⟩
      unfold okI at hi
      by_cases h4 : iv < 1
      · exact rnew_badI1 lv e p g iv now w h hr h4
      · exact rnew_badI2 lv e p g iv now w h hr h4 (by omega)
  · exact ⟨r, .inl ⟨by omega, fun w => new_err lv e p g iv now w h hr, fun w => rnew_err lv e p g iv now w h hr⟩⟩

theorem tick_both (lv e p : Nat) (g : ByteArray) (iv hd nx now : Int) (sn : Nat) (lo fa : Bool)
    (hn : 0 ≤ now ∧ now ≤ 2199023255552) (hh : 0 ≤ hd ∧ hd ≤ 2199023255552) (hi : 0 ≤ iv ∧ iv ≤ 1048576) (hs : sn + 1 < 18446744073709551616) :
    ∃ (nx' : Int) (sn' : Nat) (lo' : Bool) (b : ByteArray), sn' ≤ sn + 1 ∧
      (∀ w, Calls Try.prog 11 #[wtV lv e p g iv hd nx sn lo fa, .int .i64 now] w fun x w' => x = .returned (.tuple #[wtV lv e p g iv hd nx' sn' lo' fa, .string b]) ∧ Below w.heap.size w w') ∧
      (∀ w, Calls Try.prog 12 #[wtV lv e p g iv hd nx sn lo fa, .int .i64 now] w fun x w' => x = .returned (.tuple #[wtV lv e p g iv hd nx' sn' lo' fa, .string b]) ∧ Below w.heap.size w w') := by
  obtain ⟨bs, r, h⟩ : ∃ bs r, closeC ⟨lo, p, sn % 4294967296, e, g.data.toList⟩ lv = (bs, r) := ⟨_, _, rfl⟩
  by_cases h1 : nx ≤ now
  · refine ⟨now + iv, sn + 1, _, ⟨bs.toArray⟩, Nat.le_refl _, fun w => tick_any lv e p g iv hd nx now sn lo fa _ r w (fun w1 => message_at lv e p g iv hd nx sn lo fa w1 h rfl) hn hh hi hs ?_ rfl,
      fun w => rtick_any lv e p g iv hd nx now sn lo fa _ r w (fun w1 => says_at lv e p g iv hd nx sn lo fa w1 h rfl) hn hh hi hs ?_ rfl⟩
    all_goals (rw [if_pos h1]; exact ⟨rfl, rfl, rfl⟩)
  · refine ⟨nx, sn, _, ⟨#[]⟩, by omega, fun w => tick_any lv e p g iv hd nx now sn lo fa _ r w (fun w1 => message_at lv e p g iv hd nx sn lo fa w1 h rfl) hn hh hi hs ?_ rfl,
      fun w => rtick_any lv e p g iv hd nx now sn lo fa _ r w (fun w1 => says_at lv e p g iv hd nx sn lo fa w1 h rfl) hn hh hi hs ?_ rfl⟩
    all_goals (rw [if_neg h1]; exact ⟨rfl, rfl, rfl⟩)

theorem hear_both (lv e p : Nat) (g : ByteArray) (iv hd nx now : Int) (sn : Nat) (lo fa : Bool) (s : ByteArray) (hs : s.size ≤ maxLen) :
    ∃ (hd' : Int) (lo' fa' : Bool) (k : Int), (hd' = hd ∨ hd' = now) ∧
      (∀ w, Calls Try.prog 9 #[wtV lv e p g iv hd nx sn lo fa, .int .i64 now, .string s] w fun x w' => x = .returned (.tuple #[wtV lv e p g iv hd' nx sn lo' fa', .int .i64 k]) ∧ Below w.heap.size w w') ∧
      (∀ w, Calls Try.prog 10 #[wtV lv e p g iv hd nx sn lo fa, .int .i64 now, .string s] w fun x w' => x = .returned (.tuple #[wtV lv e p g iv hd' nx sn lo' fa', .int .i64 k]) ∧ Below w.heap.size w w') := by
  obtain ⟨⟨mlo, mp, mc, me, gl⟩, r, h⟩ : ∃ m r, openC s.data.toList lv = (m, r) := ⟨_, _, rfl⟩
  by_cases hr : r = 0
  · by_cases hg : (⟨gl.toArray⟩ : ByteArray).data.toList = g.data.toList
    · have hg' : (⟨gl.toArray⟩ : ByteArray) = g := ba_ext hg
      by_cases he : me = e
      · exact ⟨hd, lo, fa, 10, .inl rfl, fun w => hear_name lv e p g iv hd nx now sn lo fa s w h rfl hs hr hg' he, fun w => rhear_name lv e p g iv hd nx now sn lo fa s w h rfl hs hr hg' he⟩
      · by_cases hp : mp = p
        · exact ⟨now, false, mlo, 0, .inr rfl, fun w => hear_ok lv e p g iv hd nx now sn lo fa s w h rfl hs hr hg' he hp, fun w => rhear_ok lv e p g iv hd nx now sn lo fa s w h rfl hs hr hg' he hp⟩
        · exact ⟨hd, lo, fa, 4, .inl rfl, fun w => hear_range lv e p g iv hd nx now sn lo fa s w h rfl hs hr hg' he hp, fun w => rhear_range lv e p g iv hd nx now sn lo fa s w h rfl hs hr hg' he hp⟩
    · exact ⟨hd, lo, fa, 3, .inl rfl, fun w => hear_form lv e p g iv hd nx now sn lo fa s w h rfl hs hr hg, fun w => rhear_form lv e p g iv hd nx now sn lo fa s w h rfl hs hr hg⟩
  · exact ⟨hd, lo, fa, r, .inl rfl, fun w => hear_err lv e p g iv hd nx now sn lo fa s w h rfl hs hr, fun w => rhear_err lv e p g iv hd nx now sn lo fa s w h rfl hs hr⟩

set_option maxRecDepth 100000 in
set_option maxHeartbeats 2000000 in
theorem awake9 (w : World) : Calls Try.prog 6 #[] w fun e w' => e = .returned (.bool true) ∧ Below w.heap.size w w' := by
  obtain ⟨nm, hnm⟩ : ∃ nm : ByteArray, (⟨(nameC [120]).toArray⟩ : ByteArray) = nm := ⟨_, rfl⟩
  have hng : nm.data.toList.length = 48 := by rw [← hnm, data_list, length_name]
  obtain ⟨bs, hc, hl⟩ := closeC_good (lo := false) (p := 4) (c := 0) (e := 1) (l := 0) (g := nm.data.toList) (by omega) (by omega) (by omega) hng
  obtain ⟨bb, hbb⟩ : ∃ bb : ByteArray, (⟨bs.toArray⟩ : ByteArray) = bb := ⟨_, rfl⟩
  have hz : bb.size = 75 := by rw [← hbb, size_mk, hl]
  have z75 : ((bb.size : Int) == 75) = true := by rw [hz]; rfl
  have HN := Lib.hid (fun w1 => new_ok 0 1 4 nm 2 0 w1 hc rfl (by unfold okI; omega) (by unfold okN; omega) (by rw [← size_list]; exact hng))
  have HM := Lib.hid (fun w1 => message_at 0 1 4 nm 2 0 0 0 false false w1 hc hbb)
  have HT1 := Lib.hid (fun w1 => tick_any (nx' := 9) (sn' := 1) (lo' := false) 0 1 4 nm 2 0 0 7 0 false false bb 0 w1 HM.out (by omega) (by omega) (by omega) (by omega) (by rw [if_pos (by omega)]; exact ⟨rfl, rfl, rfl⟩) (by decide))
  have HT2 := Lib.hid (fun w1 => tick_any (nx' := 10) (sn' := 1) (lo' := true) 0 1 4 nm 2 0 0 8 0 false false bb 0 w1 HM.out (by omega) (by omega) (by omega) (by omega) (by rw [if_pos (by omega)]; exact ⟨rfl, rfl, rfl⟩) (by decide))
  have HNM := Lib.hid hnm
  clear hnm hng hc hl hbb hz HM
  go_enter Try.func6, Try.ntmps6
  go_wp2_with fail
  refine (name_at ⟨#[120]⟩ w HNM.out).mono ?_
  rintro x w1 ⟨rfl, hb1⟩
  have HB1 := Lib.hid hb1; clear hb1
  go_wp2_with fail
  refine (HN.out w1).mono ?_
  rintro x w2 ⟨rfl, hb2⟩
  have HB2 := Lib.hid (HB1.out.trans (hb2.mono HB1.out.size)); clear hb2
  go_upto_region 2 with (fail)
  obtain ⟨w3, hw3, b3, l3⟩ : ∃ w3 : World, w3 = w2.alloc (.cells #[.int .u8 0, .int .u16 1, .int .u8 4, .string nm, .int .i64 2, .int .i64 0, .int .i64 0, .int .u64 0, .bool false, .bool false] 25) ∧ Blk w3 w2.heap.size 25 #[.int .u8 0, .int .u16 1, .int .u8 4, .string nm, .int .i64 2, .int .i64 0, .int .i64 0, .int .u64 0, .bool false, .bool false] ∧ Below w.heap.size w w3 := ⟨_, rfl, Blk.fresh _ _ _, HB2.out.alloc HB2.out.size _⟩
  rw [← hw3]
  have HA3 := Lib.hid b3
  have HB3 := Lib.hid l3
  clear hw3 b3 l3
  obtain ⟨c0, c1, c2, c3, c4, c5, c6, c7, c8, c9, _⟩ := Rw10.row HA3.out
  go_wp2_with fail
  refine (HT1.out w3).mono ?_
  rintro x w4 ⟨rfl, hb⟩
  have HA4 := Lib.hid (HA3.out.below hb HA3.out.lt)
  have HB4 := Lib.hid (HB3.out.trans (hb.mono HB3.out.size))
  clear hb c0 c1 c2 c3 c4 c5 c6 c7 c8 c9
  go_upto_region 3 with (fail)
  obtain ⟨w5, hw5, b5, b5', l5⟩ : ∃ w5 : World, w5 = w4.alloc (.cells #[.int .u8 0, .int .u16 1, .int .u8 4, .string nm, .int .i64 2, .int .i64 0, .int .i64 9, .int .u64 1, .bool false, .bool false] 25) ∧ Blk w5 w2.heap.size 25 #[.int .u8 0, .int .u16 1, .int .u8 4, .string nm, .int .i64 2, .int .i64 0, .int .i64 0, .int .u64 0, .bool false, .bool false] ∧ Blk w5 w4.heap.size 25 #[.int .u8 0, .int .u16 1, .int .u8 4, .string nm, .int .i64 2, .int .i64 0, .int .i64 9, .int .u64 1, .bool false, .bool false] ∧ Below w.heap.size w w5 := ⟨_, rfl, HA4.out.alloc _, Blk.fresh _ _ _, HB4.out.alloc HB4.out.size _⟩
  rw [← hw5]
  have HA5 := Lib.hid b5
  have HC5 := Lib.hid b5'
  have HB5 := Lib.hid l5
  clear hw5 b5 b5' l5
  obtain ⟨c0, c1, c2, c3, c4, c5, c6, c7, c8, c9, _⟩ := Rw10.row HA5.out
  go_wp2_with fail
  refine (HT2.out w5).mono ?_
  rintro x w6 ⟨rfl, hb⟩
  have HC6 := Lib.hid (HC5.out.below hb HC5.out.lt)
  have HB6 := Lib.hid (HB5.out.trans (hb.mono HB5.out.size))
  clear hb c0 c1 c2 c3 c4 c5 c6 c7 c8 c9
  go_upto_region 4 with (fail)
  obtain ⟨w7, hw7, b7, b7', l7⟩ : ∃ w7 : World, w7 = w6.alloc (.cells #[.int .u8 0, .int .u16 1, .int .u8 4, .string nm, .int .i64 2, .int .i64 0, .int .i64 10, .int .u64 1, .bool true, .bool false] 25) ∧ Blk w7 w4.heap.size 25 #[.int .u8 0, .int .u16 1, .int .u8 4, .string nm, .int .i64 2, .int .i64 0, .int .i64 9, .int .u64 1, .bool false, .bool false] ∧ Blk w7 w6.heap.size 25 #[.int .u8 0, .int .u16 1, .int .u8 4, .string nm, .int .i64 2, .int .i64 0, .int .i64 10, .int .u64 1, .bool true, .bool false] ∧ Below w.heap.size w w7 := ⟨_, rfl, HC6.out.alloc _, Blk.fresh _ _ _, HB6.out.alloc HB6.out.size _⟩
  rw [← hw7]
  have HC7 := Lib.hid b7
  have HD7 := Lib.hid b7'
  have HB7 := Lib.hid l7
  clear hw7 b7 b7' l7
  go_wp2_with fail
  refine (awake6 w7).mono ?_
  rintro x w8 ⟨rfl, hb⟩
  have HB8 := Lib.hid (HB7.out.trans (hb.mono HB7.out.size))
  obtain ⟨_, _, _, _, _, _, _, _, c8, _⟩ := Rw10.row (HC7.out.below hb HC7.out.lt)
  obtain ⟨_, _, _, _, _, _, _, _, d8, _⟩ := Rw10.row (HD7.out.below hb HD7.out.lt)
  clear hb
  go_wp2
  go_ret
  exact ⟨rfl, HB8.out⟩
end Go.Proofs.Ytlbnigdindpnfaa.Wa
