/-
  Tables: the law's Same.
  Tables: both sides answer the same letters; the law's Awake.
  Tables: the law's Awake.
  Tables: what the law's round carries.
-/
import Derived.Test.YteaghbdeleaanaaFdB
import Derived.Test.YteaghbdeleaanaaFdC
import Derived.Test.YteaghbdeleaanaaFdD
namespace Go.Proofs.Yteaghbdeleaanaa.Fd
open Go.RowKit Go.Proofs.Yteaghbdeleaanaa.Mm Go.Proofs.Yteaghbdeleaanaa.Tg

end Go.Proofs.Yteaghbdeleaanaa.Fd
namespace Go.Proofs.Yteaghbdeleaanaa.Fd
open Go.RowKit Go.Proofs.Yteaghbdeleaanaa.Mm Go.Proofs.Yteaghbdeleaanaa.Tg

/-- a map's block is no row of cells -/
theorem Mp.ne {w : World} {b g : Nat} {l : List Fr} {t : TypeId} {cs : Array Value} (h : Mp w b l) (hg : Blk w g t cs) : b ≠ g := by
  rintro rfl
  obtain ⟨es, clock, h1, _⟩ := h
  unfold Blk at hg
  rw [h1] at hg
  injection hg with e
  cases e
/-- what holds of rows at a tick -/
structure Inv (room now : Int) (l : List Fr) : Prop where
  rising : Rising l
  keys : ∀ x ∈ l, okK x
  seen : ∀ x ∈ l, 0 ≤ x.seen ∧ x.seen ≤ now
  full : (l.length : Int) ≤ room
theorem Inv.nil {room now : Int} (h : 0 ≤ room) : Inv room now [] := ⟨List.Pairwise.nil, by simp, by simp, by simpa using h⟩
theorem Inv.later {room now now' : Int} {l : List Fr} (h : Inv room now l) (hn : now ≤ now') : Inv room now' l := ⟨h.rising, h.keys, fun x hx => ⟨(h.seen x hx).1, Int.le_trans (h.seen x hx).2 hn⟩, h.full⟩
theorem Inv.filter {room now : Int} {l : List Fr} (h : Inv room now l) (p : Fr → Bool) : Inv room now (l.filter p) :=
  ⟨h.rising.filter _, fun x hx => h.keys x (List.mem_filter.1 hx).1, fun x hx => h.seen x (List.mem_filter.1 hx).1, by have := List.length_filter_le p l; have := h.full; omega⟩
theorem Inv.big {room now : Int} {l : List Fr} (h : Inv room now l) (hn : now ≤ 1099511627776) : ∀ x ∈ l, 0 ≤ x.seen ∧ x.seen ≤ 1099511627776 := fun x hx => ⟨(h.seen x hx).1, Int.le_trans (h.seen x hx).2 hn⟩
theorem Inv.small {room now : Int} {l : List Fr} (h : Inv room now l) (hr : room ≤ 1024) : l.length ≤ 1024 := by have := h.full; omega
theorem Inv.ins {room now p : Int} {v a : Nat} {l : List Fr} (h : Inv room now l) (hin : InK v a) (hn : 0 ≤ now) (hc : lrnE room l v a p = 0) : Inv room now (ins l ⟨v, a, p, now⟩) := by
  have hm := fun y => @mem_ins l h.rising ⟨v, a, p, now⟩ y
  refine ⟨rising_ins h.rising _, fun y hy => ?_, fun y hy => ?_, ?_⟩
  · rcases (hm y).1 hy with rfl | ⟨g, _⟩
    · exact hin
    · exact h.keys y g
  · rcases (hm y).1 hy with rfl | ⟨g, _⟩
    · exact ⟨hn, Int.le_refl _⟩
    · exact h.seen y g
  · rw [length_ins h.rising]
    unfold lrnE at hc
    by_cases z : v = 0 ∨ 4094 < v
    · rw [if_pos z] at hc; cases hc
    rw [if_neg z] at hc
    by_cases m : Mc.mayB a = false ∨ Mc.groupB a = true
    · rw [if_pos m] at hc; cases hc
    rw [if_neg m] at hc
    by_cases d : p < 0 ∨ 2 < p
    · rw [if_pos d] at hc; cases hc
    rw [if_neg d] at hc
    by_cases hf : findK l v a = none ∧ room ≤ (l.length : Int)
    · rw [if_pos hf] at hc; cases hc
    have hfull := h.full
    cases ho : findK l v a with
    | none =>
      have : ¬ room ≤ (l.length : Int) := fun g => hf ⟨ho, g⟩
      simp only [Option.isSome_none, Bool.false_eq_true, if_false]
      omega
    | some x => simpa using hfull

theorem rows_at {room age now : Int} {b : Nat} {l : List Fr} {w : World} (h : Inv room now l) (hr : room ≤ 1024) (hm : Mp w b l) :
    Calls Try.prog 20 #[tbV room age (some b)] w fun e w' => ∃ A c, e = .returned (.slice A l.length c) ∧ Below w.heap.size w w' :=
  (rows_any hm h.rising h.keys (h.small hr)).mono fun _ _ ⟨A, c, he, _, hb⟩ => ⟨A, c, he, hb⟩
end Go.Proofs.Yteaghbdeleaanaa.Fd
namespace Go.Proofs.Yteaghbdeleaanaa.Fd
open Go.RowKit Go.Proofs.Yteaghbdeleaanaa.Mm Go.Proofs.Yteaghbdeleaanaa.Tg

theorem aw_1 : lrnE 2 [] 1 2 0 = 0 := by decide +kernel
theorem aw_2 : lrnE 2 [⟨1, 2, 0, 0⟩] 1 2 1 = 0 := by decide +kernel
theorem aw_i1 : ins [] ⟨1, 2, 0, 0⟩ = [⟨1, 2, 0, 0⟩] := by decide +kernel
theorem aw_i2 : ins [⟨1, 2, 0, 0⟩] ⟨1, 2, 1, 1⟩ = [⟨1, 2, 1, 1⟩] := by decide +kernel
theorem aw_l : lookR [⟨1, 2, 1, 1⟩] 1 2 2 5 = (1, true) := by decide +kernel
theorem aw_v1 : Inv 2 0 [⟨1, 2, 0, 0⟩] := ⟨List.pairwise_singleton _ _, by intro x hx; simp only [List.mem_singleton] at hx; subst hx; decide, by simp, by simp⟩
theorem aw_v2 : Inv 2 1 [⟨1, 2, 1, 1⟩] := ⟨List.pairwise_singleton _ _, by intro x hx; simp only [List.mem_singleton] at hx; subst hx; decide, by simp, by simp⟩
theorem aw_learn1 {b : Nat} {w : World} (h : Mp w b []) : Calls Try.prog 14 #[tbV 2 5 (some b), .int .i64 0, .int .u16 1, .int .u64 2, .int .i64 0] w fun e w' => ∃ b', e = .returned (.tuple #[tbV 2 5 (some b'), .int .i64 0]) ∧ Mp w' b' [⟨1, 2, 0, 0⟩] ∧ Below w.heap.size w w' := by
  have := learn_good (room := 2) (age := 5) (now := 0) (p := 0) (v := 1) (a := 2) h (by simp) List.Pairwise.nil (by simp [maxLen]) (by decide) aw_1
  rwa [aw_i1] at this
theorem aw_learn2 {b : Nat} {w : World} (h : Mp w b [⟨1, 2, 0, 0⟩]) : Calls Try.prog 14 #[tbV 2 5 (some b), .int .i64 1, .int .u16 1, .int .u64 2, .int .i64 1] w fun e w' => ∃ b', e = .returned (.tuple #[tbV 2 5 (some b'), .int .i64 0]) ∧ Mp w' b' [⟨1, 2, 1, 1⟩] ∧ Below w.heap.size w w' := by
  have := learn_good (room := 2) (age := 5) (now := 1) (p := 1) (v := 1) (a := 2) h aw_v1.keys aw_v1.rising (by simp [maxLen]) (by decide) aw_2
  rwa [aw_i2] at this
theorem aw_look {b : Nat} {w : World} (h : Mp w b [⟨1, 2, 1, 1⟩]) : Calls Try.prog 7 #[tbV 2 5 (some b), .int .i64 2, .int .u16 1, .int .u64 2] w fun e w' => e = .returned (.tuple #[.int .i64 1, .bool true]) ∧ Below w.heap.size w w' :=
  look_any (room := 2) (v := 1) (a := 2) h aw_v2.keys (by decide) (aw_v2.big (by decide)) (by decide) aw_l

set_option maxRecDepth 100000 in
set_option maxHeartbeats 2000000 in
theorem awake11 (w : World) : Calls Try.prog 10 #[] w fun e w' => e = .returned (.bool true) ∧ Below w.heap.size w w' := by
  go_enter Try.func10, Try.ntmps10
  go_wp2_with fail
  refine (new_ok 2 5 w (by decide) (by decide)).mono ?_
  rintro e w1 ⟨b1, rfl, hm, hb⟩
  go_upto_region 2 with (fail)
  have HT := Lib.hid (Blk.fresh w1 32 (tbC 2 5 (some b1)))
  have HM := Lib.hid (hm.alloc (.cells (tbC 2 5 (some b1)) 32))
  have HB := Lib.hid (hb.alloc hb.size (.cells (tbC 2 5 (some b1)) 32))
  obtain ⟨g, hg⟩ : ∃ g, g = w1.heap.size := ⟨_, rfl⟩
  have L0 : w.heap.size ≤ g := by rw [hg]; exact hb.size
  have L1 : b1 < g := by rw [hg]; exact hm.lt
  rw [← hg] at HT ⊢
  clear hm hb hg
  generalize w1.alloc (.cells (tbC 2 5 (some b1)) 32) = w2 at HT HM HB ⊢

  cases Rw3.row HT.out
  go_wp2_with fail
  refine (aw_learn1 HM.out).mono ?_
  rintro e v3 ⟨c3, rfl, hm, hb⟩
  have HTx := Lib.hid (HT.out.below hb HT.out.lt)
  have HMx := Lib.hid hm
  have HBx := Lib.hid (HB.out.trans (hb.mono HB.out.size))
  have hl := HT.out.lt
  cases Rw3.row HTx.out
  go_upto_region 3 with (fail)
  obtain ⟨x3, hx⟩ : ∃ x3, x3 = Rw3.set v3 g (.int .i64 2) (.int .i64 5) (.map (some c3)) := ⟨_, rfl⟩
  have HT3 : Hid (Blk x3 g 32 (tbC 2 5 (some c3))) := Lib.hid (by rw [hx]; exact Rw3.blk_set HTx.out _ _ _)
  have HB3 : Hid (Below w.heap.size w x3) := Lib.hid (by rw [hx]; exact Rw3.below_set HBx.out L0 _ _ _)
  have HM3 : Hid (Mp x3 c3 [⟨1, 2, 0, 0⟩]) := Lib.hid (by rw [hx]; exact HMx.out.far (HMx.out.ne HTx.out) _ _ _)
  dsimp only [Rw3.set] at hx
  rw [← hx]
  clear hm hb hx HTx HMx HBx hl

  cases Rw3.row HT3.out
  go_wp2_with fail
  refine (aw_learn2 HM3.out).mono ?_
  rintro e v4 ⟨c4, rfl, hm, hb⟩
  have HTx := Lib.hid (HT3.out.below hb HT3.out.lt)
  have HMx := Lib.hid hm
  have HBx := Lib.hid (HB3.out.trans (hb.mono HB3.out.size))
  have hl := HT3.out.lt
  cases Rw3.row HTx.out
  go_upto_region 4 with (fail)
  obtain ⟨x4, hx⟩ : ∃ x4, x4 = Rw3.set v4 g (.int .i64 2) (.int .i64 5) (.map (some c4)) := ⟨_, rfl⟩
  have HT4 : Hid (Blk x4 g 32 (tbC 2 5 (some c4))) := Lib.hid (by rw [hx]; exact Rw3.blk_set HTx.out _ _ _)
  have HB4 : Hid (Below w.heap.size w x4) := Lib.hid (by rw [hx]; exact Rw3.below_set HBx.out L0 _ _ _)
  have HM4 : Hid (Mp x4 c4 [⟨1, 2, 1, 1⟩]) := Lib.hid (by rw [hx]; exact HMx.out.far (HMx.out.ne HTx.out) _ _ _)
  dsimp only [Rw3.set] at hx
  rw [← hx]
  clear hm hb hx HTx HMx HBx hl

  cases Rw3.row HT4.out
  go_wp2_with fail
  refine (aw_look HM4.out).mono ?_
  rintro e w5 ⟨rfl, hb⟩
  have HT5 := Lib.hid (HT4.out.below hb HT4.out.lt)
  have HM5 := Lib.hid (HM4.out.on hb)
  have HB5 := Lib.hid (HB4.out.trans (hb.mono HB4.out.size))
  clear hb
  go_wp2_with fail
  refine (Mc.awake2 w5).mono ?_
  rintro e w6 ⟨rfl, hb⟩
  have HT6 := Lib.hid (HT5.out.below hb HT5.out.lt)
  have HM6 := Lib.hid (HM5.out.on hb)
  have HB6 := Lib.hid (HB5.out.trans (hb.mono HB5.out.size))
  clear hb
  cases Rw3.row HT6.out
  go_wp2_with fail
  refine (rows_at aw_v2 (by decide) HM6.out).mono ?_
  rintro e w7 ⟨A, c, rfl, hb⟩
  have HB7 := Lib.hid (HB6.out.trans (hb.mono HB6.out.size))
  clear hb
  go_wp2
  go_ret
  exact ⟨rfl, HB7.out⟩
end Go.Proofs.Yteaghbdeleaanaa.Fd
namespace Go.Proofs.Yteaghbdeleaanaa.Fd
open Go.RowKit Go.Proofs.Yteaghbdeleaanaa.Mm Go.Proofs.Yteaghbdeleaanaa.Tg

/-- rows' cells are no cells of a table -/
theorem Rd.set3 {w : World} {B g : Nat} {R : Option Addr} {l : List Fr} {t : TypeId} {y0 y1 y2 : Value} (h : Rd w B R (rowCs l)) (hg : Blk w g t #[y0, y1, y2]) (n0 : ∀ z, y0 ≠ .int .u16 z) (n1 : ∀ z, y1 ≠ .int .u16 z) (n2 : ∀ z, y2 ≠ .int .u16 z) (x0 x1 x2 : Value) :
    Rd (Rw3.set w g x0 x1 x2) B R (rowCs l) := fun hn => by
  obtain ⟨ad, e, hb, hc⟩ := h hn
  refine ⟨ad, e, hb, fun j u hu => ?_⟩
  have hne : ad.block ≠ g := by
    intro eg
    cases l with
    | nil => simp [rowCs] at hn
    | cons r l =>
      have h0 := hc 0 (.int .u16 (r.vlan : Int)) rfl
      rw [show ad.add 0 = ad from rfl] at h0
      unfold World.cell? at h0
      rw [eg, hg] at h0
      simp only at h0
      split at h0
      · cases h0
      · rcases ho : ad.off with _ | _ | _ | k
        · rw [ho] at h0; simp at h0; exact n0 _ h0
        · rw [ho] at h0; simp at h0; exact n1 _ h0
        · rw [ho] at h0; simp at h0; exact n2 _ h0
        · rw [ho] at h0; simp at h0
  have hj : (ad.add j).block ≠ g := by rw [block_add]; exact hne
  have k1 (wx : World) (i : Nat) (v : Value) : (wx.setCell ⟨g, i, none⟩ v).cell? (ad.add j) = wx.cell? (ad.add j) := by
    unfold World.cell?
    rw [Below.heap_setCell wx ⟨g, i, none⟩ v _ hj]
  rw [k1, k1, k1]
  exact hc j u hu
end Go.Proofs.Yteaghbdeleaanaa.Fd
