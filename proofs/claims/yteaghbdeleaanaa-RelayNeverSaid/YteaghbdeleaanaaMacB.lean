/-
  Contract: the document's Parse.
  Contract: mac's String.
  Contract: the document's String.
  The statements MacTells, MacReads, MacBack: their walks.
  Contracts: the document's Put and Get, at any place and of any size up to eight bytes.
-/
import Derived.Test.YteaghbdeleaanaaMacA
import Derived.Test.YteaghbdeleaanaaFld
namespace Go.Proofs.Yteaghbdeleaanaa.Mc
open Go.RowKit Go.Proofs.Yteaghbdeleaanaa.Bt Go.Proofs.Yteaghbdeleaanaa.Mm Go.Proofs.Yteaghbdeleaanaa.Fl Go.Proofs.Yteaghbdeleaanaa.Rf Go.Proofs.Yteaghbdeleaanaa.Hx Go.Proofs.Yteaghbdeleaanaa.Lw

def rdvN (c : Nat) : Int := if hexOk c = true then (hexN c : Int) else -1
end Go.Proofs.Yteaghbdeleaanaa.Mc
namespace Go.Proofs.Yteaghbdeleaanaa.Mc
open Go.RowKit Go.Proofs.Yteaghbdeleaanaa.Bt Go.Proofs.Yteaghbdeleaanaa.Mm Go.Proofs.Yteaghbdeleaanaa.Fl Go.Proofs.Yteaghbdeleaanaa.Rf Go.Proofs.Yteaghbdeleaanaa.Hx Go.Proofs.Yteaghbdeleaanaa.Lw

theorem and15 (c : Nat) (hc : c < 256) : bits .and .u8 (c : Int) 15 = ((c % 16 : Nat) : Int) := by
  have e := u8_and_nat c 15 hc (by omega)
  rw [nat_mask4] at e
  exact e
theorem byteVals_append (a b : List UInt8) : byteVals (a ++ b) = byteVals a ++ byteVals b := by simp [byteVals]
theorem byteVals_pair (c : UInt8) : byteVals [UInt8.ofNat (hexD (c.toNat / 16)), UInt8.ofNat (hexD (c.toNat % 16))] = [.int .u8 (hexD (c.toNat / 16) : Nat), .int .u8 (hexD (c.toNat % 16) : Nat)] := by
  have h := UInt8.toNat_lt c
  simp only [byteVals, List.map_cons, List.map_nil, toNat_hexD (show c.toNat / 16 < 16 by omega), toNat_hexD (show c.toNat % 16 < 16 by omega)]
theorem length_byteVals (l : List UInt8) : (byteVals l).length = l.length := by simp [byteVals]

end Go.Proofs.Yteaghbdeleaanaa.Mc
namespace Go.Proofs.Yteaghbdeleaanaa.Mc
open Go.RowKit Go.Proofs.Yteaghbdeleaanaa.Bt Go.Proofs.Yteaghbdeleaanaa.Mm Go.Proofs.Yteaghbdeleaanaa.Fl Go.Proofs.Yteaghbdeleaanaa.Rf Go.Proofs.Yteaghbdeleaanaa.Hx Go.Proofs.Yteaghbdeleaanaa.Lw

/-- 'string([]byte{a, b})', the bytes just written out -/
theorem run_two {P : Program} (W : World) (src dst e : TypeId) (a b : Nat) (hs : P.underlying src = some (.slice e)) (he : P.underlying e = some (.int .u8)) (hd : P.underlying dst = some .string) :
    (convert src dst (.slice (some ⟨W.heap.size, 0, none⟩) 2 2)).run P (W.alloc (.cells #[.int .u8 (a : Int), .int .u8 (b : Int)] e)).drew = .ok (.string ⟨#[UInt8.ofNat a, UInt8.ofNat b]⟩) (W.alloc (.cells #[.int .u8 (a : Int), .int .u8 (b : Int)] e)).drew := by
  have hB := (Blk.fresh W e #[.int .u8 (a : Int), .int .u8 (b : Int)]).drew
  have hl := run_loadCells_list (P := P) (W.alloc (.cells #[.int .u8 (a : Int), .int .u8 (b : Int)] e)).drew ⟨W.heap.size, 0, none⟩ ([(a : Int), (b : Int)].map (Value.int .u8)) (fun j v hj => by
    rw [add_zero_block, hB.cell, ← hj]
    simp)
  rw [run_convert_bytes_string _ src dst e _ 2 2 hs he hd]
  rw [run_bytesToString _ _ 2 2 [(a : Int), (b : Int)] hl]
  rfl

end Go.Proofs.Yteaghbdeleaanaa.Mc
namespace Go.Proofs.Yteaghbdeleaanaa.Mc
open Go.RowKit Go.Proofs.Yteaghbdeleaanaa.Bt Go.Proofs.Yteaghbdeleaanaa.Mm Go.Proofs.Yteaghbdeleaanaa.Fl Go.Proofs.Yteaghbdeleaanaa.Rf Go.Proofs.Yteaghbdeleaanaa.Hx Go.Proofs.Yteaghbdeleaanaa.Lw

theorem parse_at {v k : Nat} (s : ByteArray) (w : World) (h : parseR s.data.toList = (v, k)) (hs : s.size ≤ maxLen) :
    Calls Try.prog 30 #[.string s] w fun e w' => e = .returned (.tuple #[.int .u64 (v : Int), .int .i64 (k : Int)]) ∧ w = w' := by
  have := parse_any s w hs
  rw [h] at this
  exact this
theorem group_b (b : Bool) (n : Nat) (w : World) (h : groupB n = b) (hn : n < 18446744073709551616) :
    Calls Try.prog 8 #[.int .u64 (n : Int)] w fun e w' => e = .returned (.bool b) ∧ w = w' := by
  subst h; exact group_any n w hn
theorem bytes_at (l : ByteArray) (n : Nat) (w : World) (h : (⟨(bytesM n).toArray⟩ : ByteArray) = l) (hn : n < 18446744073709551616) :
    Calls Try.prog 32 #[.int .u64 (n : Int)] w fun e w' => e = .returned (.string l) ∧ Below w.heap.size w w' := by
  subst h; exact bytes_any n w hn
theorem awake_parse : parseR [48, 49, 58, 49, 57, 58, 97, 55, 58, 48, 48, 58, 48, 48, 58, 48, 49] = (1209687605249, 0) := by decide +kernel
theorem awake_group : groupB 1209687605249 = true := by decide +kernel
theorem awake_group2 : groupB 2 = false := by decide +kernel
theorem awake_bytes : bytesM 1209687605249 = [1, 25, 167, 0, 0, 1] := by decide +kernel

set_option maxRecDepth 100000 in
set_option maxHeartbeats 400000 in
theorem awake2 (w : World) : Calls Try.prog 19 #[] w fun e w' => e = .returned (.bool true) ∧ Below w.heap.size w w' := by
  go_enter Try.func19, Try.ntmps19
  go_wp2_with fail
  refine (parse_at _ w awake_parse (by unfold maxLen; decide)).mono ?_
  rintro e w1 ⟨rfl, rfl⟩
  go_wp2_with fail
  refine (awake1 w).mono ?_
  rintro e w2 ⟨rfl, hb2⟩
  have HB2 := Lib.hid hb2; clear hb2
  have hs2 := HB2.out.size
  go_wp2_with fail
  refine (group_b true 1209687605249 w2 awake_group (by omega)).mono ?_
  rintro e w3 ⟨rfl, rfl⟩
  go_wp2_with fail
  refine (bytes_at ⟨#[1, 25, 167, 0, 0, 1]⟩ 1209687605249 w2 (by rw [awake_bytes]) (by omega)).mono ?_
  rintro e w3 ⟨rfl, hb3⟩
  have HB3 := Lib.hid (HB2.out.trans (hb3.mono hs2)); clear hb3
  go_wp2_with fail
  refine (group_b false 2 w3 awake_group2 (by omega)).mono ?_
  rintro e w4 ⟨rfl, rfl⟩
  go_wp2
  go_ret
  exact ⟨rfl, HB3.out⟩

end Go.Proofs.Yteaghbdeleaanaa.Mc
namespace Go.Proofs.Yteaghbdeleaanaa.Mc
open Go.RowKit Go.Proofs.Yteaghbdeleaanaa.Bt Go.Proofs.Yteaghbdeleaanaa.Mm Go.Proofs.Yteaghbdeleaanaa.Fl Go.Proofs.Yteaghbdeleaanaa.Rf Go.Proofs.Yteaghbdeleaanaa.Hx Go.Proofs.Yteaghbdeleaanaa.Lw

theorem splitR_one (s : ByteArray) (n : Nat) (hn : 1 ≤ n) (hn8 : n ≤ 8) (h : n ≤ s.size) : splitR s [((8 * n : Nat) : Int)] = ([getB s 0 (8 * n)], s.extract n s.size, 0) := by
  have e1 : ([((8 * n : Nat) : Int)]).all okW = true := by
    simp only [List.all_cons, List.all_nil, Bool.and_true, okW, decide_eq_true_eq]
    exact ⟨by omega, by omega⟩
  have e2 : tot [((8 * n : Nat) : Int)] = 8 * n := by simp only [tot, List.map_cons, List.map_nil, List.sum_cons, List.sum_nil, Int.toNat_natCast]; omega
  have e3 : valsOf s [((8 * n : Nat) : Int)] = [getB s 0 (8 * n)] := by
    unfold valsOf
    simp only [List.length_singleton, List.range_one, List.map_cons, List.map_nil, List.take_zero, List.getD_cons_zero, Int.toNat_natCast]
    rfl
  unfold splitR
  rw [if_pos e1, e2, if_pos (by omega), show 8 * n / 8 = n by omega, if_pos h, e3]
end Go.Proofs.Yteaghbdeleaanaa.Mc
