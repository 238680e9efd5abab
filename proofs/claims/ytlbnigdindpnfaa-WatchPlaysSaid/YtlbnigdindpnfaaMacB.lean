/-
  Contract: the document's Parse.
  Contract: mac's String.
  Contract: the document's String.
  The statements MacTells, MacReads, MacBack: their walks.
  Contracts: the document's Put and Get, at any place and of any size up to eight bytes.
-/
import Derived.Test.YtlbnigdindpnfaaMacA
import Derived.Test.YtlbnigdindpnfaaFld
namespace Go.Proofs.Ytlbnigdindpnfaa.Mc
open Go.RowKit Go.Proofs.Ytlbnigdindpnfaa.Bt Go.Proofs.Ytlbnigdindpnfaa.Mm Go.Proofs.Ytlbnigdindpnfaa.Fl Go.Proofs.Ytlbnigdindpnfaa.Rf Go.Proofs.Ytlbnigdindpnfaa.Hx Go.Proofs.Ytlbnigdindpnfaa.Lw

def rdvN (c : Nat) : Int := if hexOk c = true then (hexN c : Int) else -1
end Go.Proofs.Ytlbnigdindpnfaa.Mc
namespace Go.Proofs.Ytlbnigdindpnfaa.Mc
open Go.RowKit Go.Proofs.Ytlbnigdindpnfaa.Bt Go.Proofs.Ytlbnigdindpnfaa.Mm Go.Proofs.Ytlbnigdindpnfaa.Fl Go.Proofs.Ytlbnigdindpnfaa.Rf Go.Proofs.Ytlbnigdindpnfaa.Hx Go.Proofs.Ytlbnigdindpnfaa.Lw

theorem and15 (c : Nat) (hc : c < 256) : bits .and .u8 (c : Int) 15 = ((c % 16 : Nat) : Int) := by
  have e := u8_and_nat c 15 hc (by omega)
  rw [nat_mask4] at e
  exact e
theorem byteVals_append (a b : List UInt8) : byteVals (a ++ b) = byteVals a ++ byteVals b := by simp [byteVals]
theorem byteVals_pair (c : UInt8) : byteVals [UInt8.ofNat (hexD (c.toNat / 16)), UInt8.ofNat (hexD (c.toNat % 16))] = [.int .u8 (hexD (c.toNat / 16) : Nat), .int .u8 (hexD (c.toNat % 16) : Nat)] := by
  have h := UInt8.toNat_lt c
  simp only [byteVals, List.map_cons, List.map_nil, toNat_hexD (show c.toNat / 16 < 16 by omega), toNat_hexD (show c.toNat % 16 < 16 by omega)]
theorem length_byteVals (l : List UInt8) : (byteVals l).length = l.length := by simp [byteVals]

end Go.Proofs.Ytlbnigdindpnfaa.Mc
namespace Go.Proofs.Ytlbnigdindpnfaa.Mc
open Go.RowKit Go.Proofs.Ytlbnigdindpnfaa.Bt Go.Proofs.Ytlbnigdindpnfaa.Mm Go.Proofs.Ytlbnigdindpnfaa.Fl Go.Proofs.Ytlbnigdindpnfaa.Rf Go.Proofs.Ytlbnigdindpnfaa.Hx Go.Proofs.Ytlbnigdindpnfaa.Lw

/-- 'string([]byte{a, b})', the bytes just written out -/
theorem run_two {P : Program} (W : World) (src dst e : TypeId) (a b : Nat) (hs : P.underlying src = some (.slice e)) (he : P.underlying e = some (.int .u8)) (hd : P.underlying dst = some .string) :
    (convert src dst (.slice (some ⟨W.heap.size, 0, none⟩) 2 2)).run P (W.alloc (.cells #[.int .u8 (a : Int), .int .u8 (b : Int)] e)).drew = .ok (.string ⟨#[UInt8.ofNat a, UInt8.ofNat b]⟩) (W.alloc (.cells #[.int .u8 (a : Int), .int .u8 (b : Int)] e)).drew := by
  have hB := (Blk.fresh W e #[.int .u8 (a : Int), .int .u8 (b : Int)]).drew
  have hl := run_loadCells_list (P := P) (W.alloc (.cells #[.int .u8 (a : Int), .int .u8 (b : Int)] e)).drew ⟨W.heap.size, 0, none⟩ ([(a : Int), (b : Int)].map (Value.int .u8)) (fun j v hj => by
    rw [add_zero_block, hB.cell, ← hj]
    simp)
  rw [run_convert_bytes_string _ src dst e _ 2 2 hs he hd]
  rw [run_bytesToString _ _ 2 2 [(a : Int), (b : Int)] hl]
  rfl

end Go.Proofs.Ytlbnigdindpnfaa.Mc
namespace Go.Proofs.Ytlbnigdindpnfaa.Mc
open Go.RowKit Go.Proofs.Ytlbnigdindpnfaa.Bt Go.Proofs.Ytlbnigdindpnfaa.Mm Go.Proofs.Ytlbnigdindpnfaa.Fl Go.Proofs.Ytlbnigdindpnfaa.Rf Go.Proofs.Ytlbnigdindpnfaa.Hx Go.Proofs.Ytlbnigdindpnfaa.Lw

theorem awake_parse : parseR [48, 49, 58, 49, 57, 58, 97, 55, 58, 48, 48, 58, 48, 48, 58, 48, 49] = (1209687605249, 0) := by decide +kernel
theorem awake_group : groupB 1209687605249 = true := by decide +kernel
theorem awake_group2 : groupB 2 = false := by decide +kernel
theorem awake_bytes : bytesM 1209687605249 = [1, 25, 167, 0, 0, 1] := by decide +kernel

end Go.Proofs.Ytlbnigdindpnfaa.Mc
namespace Go.Proofs.Ytlbnigdindpnfaa.Mc
open Go.RowKit Go.Proofs.Ytlbnigdindpnfaa.Bt Go.Proofs.Ytlbnigdindpnfaa.Mm Go.Proofs.Ytlbnigdindpnfaa.Fl Go.Proofs.Ytlbnigdindpnfaa.Rf Go.Proofs.Ytlbnigdindpnfaa.Hx Go.Proofs.Ytlbnigdindpnfaa.Lw

theorem put_any (v n : Nat) (w : World) (hn : 1 ≤ n) (hn8 : n ≤ 8) (hv : v < 2 ^ (8 * n)) (hv64 : v < 18446744073709551616) :
    Calls Try.prog 40 #[.int .u64 (v : Int), .int .i64 (n : Int)] w fun e w' => e = .returned (.string ⟨(putB v n).toArray⟩) ∧ Below w.heap.size w w' := by
  have HP := Lib.hid (packR_put hn hn8 hv); clear hv
  have HV := Lib.hid (show ∀ p ∈ [(((8 * n : Nat) : Int), v)], p.2 < 18446744073709551616 by intro p hp; simp at hp; subst hp; exact hv64)
  have e8 : (8 : Int) * (n : Int) = ((8 * n : Nat) : Int) := by omega
  have HE := Lib.hid e8; clear e8
  go_enter Try.func40, Try.ntmps40
  go_wp2_with fail
  rw [HE.out]
  refine (rpack_lit [(((8 * n : Nat) : Int), v)] _ _ _ _ _ _ w rfl rfl (by simp) HV.out HP.out).mono ?_
  rintro e w1 ⟨rfl, hb⟩
  have HB := Lib.hid (below_one _ hb); clear hb
  go_wp2
  go_ret
  exact ⟨rfl, HB.out⟩
theorem splitR_one (s : ByteArray) (n : Nat) (hn : 1 ≤ n) (hn8 : n ≤ 8) (h : n ≤ s.size) : splitR s [((8 * n : Nat) : Int)] = ([getB s 0 (8 * n)], s.extract n s.size, 0) := by
  have e1 : ([((8 * n : Nat) : Int)]).all okW = true := by
    simp only [List.all_cons, List.all_nil, Bool.and_true, okW, decide_eq_true_eq]
    exact ⟨by omega, by omega⟩
  have e2 : tot [((8 * n : Nat) : Int)] = 8 * n := by simp only [tot, List.map_cons, List.map_nil, List.sum_cons, List.sum_nil, Int.toNat_natCast]; omega
  have e3 : valsOf s [((8 * n : Nat) : Int)] = [getB s 0 (8 * n)] := by
    unfold valsOf
    simp only [List.length_singleton, List.range_one, List.map_cons, List.map_nil, List.take_zero, List.getD_cons_zero, Int.toNat_natCast]
    rfl
  unfold splitR
  rw [if_pos e1, e2, if_pos (by omega), show 8 * n / 8 = n by omega, if_pos h, e3]
theorem get_any (s : ByteArray) (a n : Nat) (w : World) (hs : s.size ≤ maxLen) (hn : 1 ≤ n) (hn8 : n ≤ 8) (h : a + n ≤ s.size) :
    Calls Try.prog 33 #[.string s, .int .i64 (a : Int), .int .i64 (n : Int)] w fun e w' => e = .returned (.int .u64 (getN s.data.toList a n : Nat)) ∧ Below w.heap.size w w' := by
  unfold maxLen at hs
  have hxs : (s.extract a s.size).size = s.size - a := by simp
  have hsp := splitR_one (s.extract a s.size) n hn hn8 (by omega)
  have hv : getB (s.extract a s.size) 0 (8 * n) = getN s.data.toList a n := by
    rw [show (0 : Nat) = 8 * 0 from rfl, getB_getN]
    unfold getN
    rw [extract_list, List.drop_zero]
  rw [hv] at hsp
  clear hv
  have hl : (s.extract a s.size).size ≤ maxLen := by unfold maxLen; omega
  have HL := Lib.hid hl; clear hl
  have HS := Lib.hid hsp; clear hsp hxs
  generalize getN s.data.toList a n = x at *
  have e8 : (8 : Int) * (n : Int) = ((8 * n : Nat) : Int) := by omega
  have HE := Lib.hid e8; clear e8
  have ha : (a : Int) ≤ (s.size : Int) := by omega
  go_enter Try.func33, Try.ntmps33
  go_wp2_with fail
  rw [HE.out]
  generalize (s.extract a s.size) = t at *
  refine (rsplit_one t _ _ w HS.out HL.out).mono ?_
  rintro e w1 ⟨A', c', rfl, hr, hb⟩
  obtain ⟨ad, rfl, _, hc⟩ := hr (by simp [nums])
  have c0 := hc 0 _ rfl
  simp [Addr.add] at c0
  have HB := Lib.hid hb; clear hb hc
  go_wp2
  go_ret
  exact ⟨rfl, HB.out⟩
end Go.Proofs.Ytlbnigdindpnfaa.Mc
