/-
  Contract of raps' Close: where nothing is wrong.
-/
import Derived.Test.YtnapbmdkaldncaaRpB
namespace Go.Proofs.Ytnapbmdkaldncaa.Rp
open Go.RowKit Go.Proofs.Ytnapbmdkaldncaa.Bt Go.Proofs.Ytnapbmdkaldncaa.Mm Go.Proofs.Ytnapbmdkaldncaa.Fl Go.Proofs.Ytnapbmdkaldncaa.Lw Go.Proofs.Ytnapbmdkaldncaa.Hx Go.Proofs.Ytnapbmdkaldncaa.Mc Go.Proofs.Ytnapbmdkaldncaa.Tg Go.Proofs.Ytnapbmdkaldncaa.Oa

theorem parts_split (q : Nat) (b k e : Bool) (n : Nat) : partCells (partsM q b k e n) = ([.int .i64 4, .int .u64 (q : Int), .int .i64 4, .int .u64 0] ++ partCells (bitPs [b, k, e])) ++ [.int .i64 5, .int .u64 0, .int .i64 48, .int .u64 (n : Int)] := by
  simp [partCells, bitPs]
theorem one_parts (ps : List (Int × Nat)) : ∀ u ∈ partCells ps, u.oneCell' = true := by
  intro u hu
  simp only [partCells, List.mem_flatMap, List.mem_cons, List.not_mem_nil, or_false] at hu
  obtain ⟨p, _, rfl | rfl⟩ := hu <;> rfl
/-- Pack of parts that were collected -/
theorem pack_own {base n c k : Nat} {A : Option Addr} {e : TypeId} {xs : List Value} {s : List UInt8} (ps : List (Int × Nat)) (w : World) (h : w.ownsRow base e 2 (.slice A n c) n xs) (hx : xs = partCells ps) (hn : ps.length = n) (hn2 : n ≤ 100000) (hv : ∀ p ∈ ps, p.2 < 18446744073709551616) (hr : packR ps = (s, k)) :
    Calls Try.prog 24 #[.slice A n c] w fun e w' => e = .returned (.tuple #[.string ⟨s.toArray⟩, .int .i64 (k : Nat)]) ∧ Below w.heap.size w w' := by
  subst hx hn
  have h2 := pack_any ps A c w hn2 (Rd.of_own h) hv
  rw [hr] at h2
  exact h2
set_option maxRecDepth 100000 in
set_option maxHeartbeats 2000000 in
theorem close_ok (q : Nat) (b k e : Bool) (n l : Nat) (f : List UInt8) (bs : List UInt8) (r : Nat) (w : World) (h : ¬ 7 < l) (hr : wrongM ⟨q, b, k, e, n⟩ = 0) (hq : q < 256) (hn : n < 18446744073709551616)
    (hp : packR (partsM q b k e n) = (f, 0)) (hv : ∀ p ∈ partsM q b k e n, p.2 < 18446744073709551616) (hf : f.length = 8) (hc : closeO ⟨l, 1, 40, 0, 32⟩ ((⟨f.toArray⟩ : ByteArray) ++ ⟨(noughts 24).toArray⟩).data.toList = (bs, r)) :
    Calls Try.prog 9 #[msV q b k e n, .int .u8 (l : Int)] w fun x w' => x = .returned (.tuple #[.string ⟨bs.toArray⟩, .int .i64 (r : Int)]) ∧ Below w.heap.size w w' := by
  have h1 : decide ((7 : Int) < (l : Int)) = false := gt_f (by omega)
  have HR := Lib.hid hr; clear hr
  have HN := Lib.hid hn; clear hn
  have HP := Lib.hid hp; clear hp
  have HV := Lib.hid hv; clear hv
  have HC := Lib.hid hc; clear hc
  have hf8 : (⟨f.toArray⟩ : ByteArray).size = 8 := by rw [size_mk, hf]
  have hz24 : (⟨(noughts 24).toArray⟩ : ByteArray).size = 24 := by rw [size_mk]; rfl
  have hq2 : IntKind.u64.wrap (q : Int) = (q : Int) := IntWalk.u64_in _ ⟨by omega, by omega⟩
  obtain ⟨i0, hi, hz0, hz1, hz2⟩ := info_parts info_fpart
  have HB := Lib.hid ((Below.refl w.heap.size w).alloc (Nat.le_refl _) (.cells (msC q b k e n) 26))
  have K0 := Lib.hid (Rw5.fresh w 26 (.int .u8 (q : Int)) (.bool b) (.bool k) (.bool e) (.int .u64 (n : Int)))
  clear h hf
  go_enter Try.func9, Try.ntmps9
  go_wp2_with fail
  refine (wrong_at q b k e n _ HR.out HN.out).mono ?_
  rintro x w1 ⟨rfl, hb1⟩
  have HB1 := Lib.hid (HB.out.trans (hb1.mono HB.out.size))
  have K1 := Lib.hid (Rw5.keep hb1 K0.out)
  obtain ⟨g1, c0, c1, c2, c3, c4⟩ := Rw5.keep hb1 K0.out
  clear hb1 K0 HB
  go_wp2_with fail
  have O2 := Lib.hid (((World.ownsRow_lit (base := w1.heap.size) (e := 58) (size := 2) w1 #[.int .i64 4, .int .u64 (q : Int), .int .i64 4, .int .u64 0] 2 (Nat.le_refl _) (by unfold maxLen; omega) rfl)).alloc (.cells #[.bool b, .bool k, .bool e] 4))
  have B2 := Lib.hid (((Below.refl w1.heap.size w1).alloc (Nat.le_refl _) (.cells #[.int .i64 4, .int .u64 (q : Int), .int .i64 4, .int .u64 0] 58)).alloc (by simp) (.cells #[.bool b, .bool k, .bool e] 4))
  refine (parts_three b k e _ 3 _ _ (fresh_second w1 _ _ _)).mono ?_
  rintro x w2 ⟨g, rc, rfl, hcs, hb2⟩
  have O3 := Lib.hid (own_below O2.out hb2)
  have B3 := Lib.hid (B2.out.trans (hb2.mono (by simp; omega)))
  have HCS := Lib.hid hcs
  clear hb2 O2 B2 hcs c0 c1 c2 c3 c4
  obtain ⟨_, c0, c1, c2, c3, c4⟩ := Rw5.keep B3.out K1.out
  have s2 := B3.out.size
  have one3 := Lib.hid (one_parts (bitPs [b, k, e]))
  go_wp2_with (first
    | (at_builtin; refine wpList_append_own _ rfl (.tmp 23) (.tmp 31) 59 rfl w1.heap.size 58 i0 (.agg #[.int .i64 0, .int .u64 0]) 2 16 Try.underlying59 hi hz0 hz1 hz2 rfl (by decide) _ _ _ rfl O3.out ⟨g, 0, none⟩ 3 rc (partCells (bitPs [b, k, e])) rfl rfl HCS.out one3.out (by unfold maxLen; omega) (by omega) s2 ?_; intro v3 w3 hown3 hgrow3 _; have B4 := Lib.hid (below_own B3.out O3.out s2 hgrow3); have O4 := Lib.hid hown3; clear hown3 hgrow3 c0 c1 c2 c3 c4; obtain ⟨_, c0, c1, c2, c3, c4⟩ := Rw5.keep B4.out K1.out; have s3 := B4.out.size)
    | (at_builtin; refine wpList_append_own _ rfl (.tmp 33) (.tmp 38) 59 rfl w1.heap.size 58 i0 (.agg #[.int .i64 0, .int .u64 0]) 2 16 Try.underlying59 hi hz0 hz1 hz2 rfl (by decide) _ _ _ rfl (O4.out.alloc _) ⟨w3.heap.size, 0, none⟩ 2 2 [.int .i64 5, .int .u64 0, .int .i64 48, .int .u64 (n : Int)] rfl rfl (cells_new _ _ _ _ _ rfl rfl) (by intro u hu; simp at hu; rcases hu with rfl | rfl | rfl | rfl <;> rfl) (by unfold maxLen; omega) (by omega) (by simp; omega) ?_; intro v4 w4 hown4 hgrow4 _; have B5 := Lib.hid (below_own (B4.out.alloc s3 _) (O4.out.alloc _) (by simp; omega) hgrow4); have O5 := Lib.hid hown4; clear hown4 hgrow4))
  obtain ⟨A4, k4, rfl⟩ := own_slice O5.out
  clear c0 c1 c2 c3 c4 s3
  refine (pack_own (partsM q b k e n) w4 O5.out (parts_split q b k e n).symm rfl (by omega) HV.out HP.out).mono ?_
  rintro x w5 ⟨rfl, hb5⟩
  have HB5 := Lib.hid ((HB1.out.trans (B5.out.mono HB1.out.size)).trans (hb5.mono (Nat.le_trans HB1.out.size B5.out.size)))
  clear hb5
  have hmk := make24 w5
  have hbk := back24 w5
  go_wp2_with fail
  have B6 := Lib.hid (HB5.out.alloc HB5.out.size (.cells (byteVals (noughts 24)).toArray 5))
  refine (Oa.close_at l 1 40 0 32 _ _ HC.out (by omega) (by omega) (by omega)).mono ?_
  rintro x w6 ⟨rfl, hb6⟩
  have HB6 := Lib.hid (B6.out.trans (hb6.mono B6.out.size))
  clear hb6
  go_wp2
  go_ret2
  exact ⟨rfl, HB6.out⟩
theorem close_at {bs : List UInt8} {r : Nat} (q : Nat) (b k e : Bool) (n l : Nat) (w : World) (h : closeM ⟨q, b, k, e, n⟩ l = (bs, r)) (hq : q < 256) (hn : n < 18446744073709551616) :
    Calls Try.prog 9 #[msV q b k e n, .int .u8 (l : Int)] w fun x w' => x = .returned (.tuple #[.string ⟨bs.toArray⟩, .int .i64 (r : Int)]) ∧ Below w.heap.size w w' := by
  unfold closeM at h
  by_cases h1 : 7 < l
  · rw [if_pos h1] at h
    simp only [Prod.mk.injEq] at h
    obtain ⟨rfl, rfl⟩ := h
    exact close_hi q b k e n l w h1
  rw [if_neg h1] at h
  by_cases h2 : wrongM ⟨q, b, k, e, n⟩ ≠ 0
  · rw [if_pos h2] at h
    simp only [Prod.mk.injEq] at h
    obtain ⟨rfl, rfl⟩ := h
    exact close_wrong q b k e n l _ w h1 rfl h2 hn
  rw [if_neg h2] at h
  have hw : wrongM ⟨q, b, k, e, n⟩ = 0 := by simpa using h2
  obtain ⟨hk, _, hnn, _⟩ := wrongM_zero hw
  have hq4 := kind_lt hk
  simp only at hq4 hnn
  have hv : ∀ p ∈ partsM q b k e n, p.2 < 18446744073709551616 := by
    have hb : ∀ b, bitN b 1 < 2 := by intro b; cases b <;> simp [bitN]
    have h1 := hb b
    have h2 := hb k
    have h3 := hb e
    intro p hp
    simp only [partsM, List.mem_cons, List.not_mem_nil, or_false] at hp
    rcases hp with rfl | rfl | rfl | rfl | rfl | rfl | rfl <;> simp only <;> omega
  have hl6 := length_bytesM hnn
  have hc : closeO ⟨l, 1, 40, 0, 32⟩ ((⟨(firstM q b k e n).toArray⟩ : ByteArray) ++ ⟨(noughts 24).toArray⟩).data.toList = (bs, r) := by
    rw [← h]
    congr 1
  exact close_ok q b k e n l _ bs r w h1 hw hq hn (pack_msg q b k e n hq4 hnn) hv (by simp [firstM, hl6]) hc
end Go.Proofs.Ytnapbmdkaldncaa.Rp
