/-
  Contract of tagged's Close.
-/
import Derived.Test.YtomchhjemfldnaaTag2
namespace Go.Proofs.Ytomchhjemfldnaa.Tg
open Go.RowKit Go.Proofs.Ytomchhjemfldnaa.Bt Go.Proofs.Ytomchhjemfldnaa.Mm Go.Proofs.Ytomchhjemfldnaa.Fl Go.Proofs.Ytomchhjemfldnaa.Rf Go.Proofs.Ytomchhjemfldnaa.Hx Go.Proofs.Ytomchhjemfldnaa.Lw Go.Proofs.Ytomchhjemfldnaa.Mc

theorem wrong_at (k : Nat) (d s p v t : Nat) (dr : Bool) (b : ByteArray) (w : World) (h : wrongT (frT d s p dr v t b) = k) (hs : s < 18446744073709551616) (hb : b.size ≤ maxLen) :
    Calls Try.prog 13 #[frV d s p dr v t b] w fun e w' => e = .returned (.int .i64 (k : Nat)) ∧ Below w.heap.size w w' := by
  subst h; exact wrong_any d s p v t dr b w hs hb
theorem cell_al {w : World} {g k : Nat} {o : Obj} {x : Value} (h : w.cell? ⟨g, k, none⟩ = some x) (hg : g < w.heap.size) : (w.alloc o).cell? ⟨g, k, none⟩ = some x :=
  (((Below.refl w.heap.size w).alloc (Nat.le_refl _) o).cell (p := ⟨g, k, none⟩) hg).trans h
theorem cell_be {w w' : World} {B g k : Nat} {x : Value} (h : w.cell? ⟨g, k, none⟩ = some x) (hb : Below B w w') (hg : g < B) : w'.cell? ⟨g, k, none⟩ = some x := (hb.cell (p := ⟨g, k, none⟩) hg).trans h
theorem cell_ab {w w' : World} {g k : Nat} {o : Obj} {x : Value} (h : w.cell? ⟨g, k, none⟩ = some x) (hb : Below (w.alloc o).drew.heap.size (w.alloc o).drew w') (hg : g < w.heap.size) : w'.cell? ⟨g, k, none⟩ = some x :=
  cell_be (w := (w.alloc o).drew) (cell_al h hg) hb (Nat.lt_of_lt_of_le hg ((Below.refl w.heap.size w).alloc (Nat.le_refl _) o).size)
theorem below_ab {w0 w w' : World} {B : Nat} {o : Obj} (h : Below B w0 w) (hB : B ≤ w.heap.size) (hb : Below (w.alloc o).drew.heap.size (w.alloc o).drew w') : Below B w0 w' :=
  ((h.alloc hB o).drew).trans (hb.mono (Nat.le_trans hB ((Below.refl w.heap.size w).alloc (Nat.le_refl _) o).size))
/-- Pack of parts that lie in a block -/
theorem pack_blk (ps : List (Int × Nat)) (cs : Array Value) (s : List UInt8) (n k c g : Nat) (t : TypeId) (w : World) (hb : Blk w g t cs) (hcs : cs.toList = partCells ps) (hn : ps.length = n) (hn2 : n ≤ 100000) (hv : ∀ p ∈ ps, p.2 < 18446744073709551616) (hr : packR ps = (s, k)) :
    Calls Try.prog 14 #[.slice (some ⟨g, 0, none⟩) n c] w fun e w' => e = .returned (.tuple #[.string ⟨s.toArray⟩, .int .i64 (k : Nat)]) ∧ Below w.heap.size w w' := by
  subst hn
  have hA : Rd w w.heap.size (some ⟨g, 0, none⟩) (partCells ps) := by
    have := Rd.of_blk hb cs.toList.length
    rw [List.take_length, hcs] at this
    exact this
  have h := pack_any ps (some ⟨g, 0, none⟩) c w hn2 hA hv
  rw [hr] at h
  exact h
theorem split_blk {vs : List Nat} {r : ByteArray} {k : Nat} (s : ByteArray) (zs : List Int) (cs : Array Value) (n m c g : Nat) (t : TypeId) (w : World) (hb : Blk w g t cs) (hcs : cs.toList = ints zs) (h : splitR s zs = (vs, r, k)) (hn : zs.length = n) (hm : vs.length = m) (hs : s.size ≤ maxLen) (hn2 : n ≤ 100000) :
    Calls Try.prog 20 #[.string s, .slice (some ⟨g, 0, none⟩) n c] w fun e w' => ∃ (A' : Option Addr) (c' : Nat), e = .returned (.tuple #[.slice A' m c', .string r, .int .i64 (k : Nat)]) ∧ Rd w' w'.heap.size A' (nums .u64 vs) ∧ Below w.heap.size w w' := by
  have hA : Rd w w.heap.size (some ⟨g, 0, none⟩) (ints zs) := by
    have := Rd.of_blk hb cs.toList.length
    rw [List.take_length, hcs] at this
    exact this
  exact split_len s zs n m _ c w h hn hm hs hn2 hA
/-- a frame's parts -/
abbrev partsT (d s p dn v t : Nat) : List (Int × Nat) := [(48, d), (48, s), (16, 33024), (3, p), (1, dn), (12, v), (16, t)]

set_option maxRecDepth 100000 in
set_option maxHeartbeats 1000000 in
theorem close_any (d s p v t dn : Nat) (dr : Bool) (b : ByteArray) (hb' : List UInt8) (w : World) (hs : s < 18446744073709551616) (hb : b.size ≤ maxLen)
    (hdn : (if dr = true then 1 else 0) = dn) (hw : wrongT (frT d s p dr v t b) = 0) (hp : packR (partsT d s p dn v t) = (hb', 0)) (hv : ∀ q ∈ partsT d s p dn v t, q.2 < 18446744073709551616) (hp8 : p < 256) (hv16 : v < 65536) (ht16 : t < 65536) (hsz : b.size ≤ 2000) (hsz2 : hb'.length ≤ 100) :
    Calls Try.prog 7 #[frV d s p dr v t b] w fun e w' => e = .returned (.tuple #[.string (⟨hb'.toArray⟩ ++ b), .int .i64 0]) ∧ Below w.heap.size w w' := by
  have HN := Lib.hid hdn; clear hdn
  have HW := Lib.hid hw; clear hw
  have HP := Lib.hid hp; clear hp
  have HV := Lib.hid hv; clear hv
  have hs2 : (⟨hb'.toArray⟩ : ByteArray).size ≤ 100 := by show hb'.toArray.size ≤ 100; simpa using hsz2
  generalize hBs : (⟨hb'.toArray⟩ : ByteArray) = bs at hs2 ⊢
  have HBs := Lib.hid hBs; clear hBs
  go_enter Try.func7, Try.ntmps7
  go_wp2_with fail
  refine (wrong_at 0 d s p v t dr b _ HW.out hs hb).mono ?_
  rintro e w1 ⟨rfl, hb1⟩
  have hbk := (Blk.fresh w 26 #[.int .u64 (d : Int), .int .u64 (s : Int), .int .u8 (p : Int), .bool dr, .int .u16 (v : Int), .int .u16 (t : Int), .string b]).below hb1 (by simp)
  have c0 := hbk.cell 0
  have c1 := hbk.cell 1
  have c2 := hbk.cell 2
  have c3 := hbk.cell 3
  have c4 := hbk.cell 4
  have c5 := hbk.cell 5
  have c6 := hbk.cell 6
  simp at c0 c1 c2 c3 c4 c5 c6
  have HB1 := Lib.hid ((((Below.refl w.heap.size w).alloc (Nat.le_refl _) (.cells #[.int .u64 (d : Int), .int .u64 (s : Int), .int .u8 (p : Int), .bool dr, .int .u16 (v : Int), .int .u16 (t : Int), .string b] 26))).trans (hb1.mono (by simp)))
  have HK := Lib.hid hbk
  clear hb1 hbk
  go_wp2_with fail
  have q1 : IntKind.u64.wrap (p : Int) = (p : Int) := IntWalk.u64_in _ ⟨by omega, by omega⟩
  have q2 : IntKind.u64.wrap (v : Int) = (v : Int) := IntWalk.u64_in _ ⟨by omega, by omega⟩
  have q3 : IntKind.u64.wrap (t : Int) = (t : Int) := IntWalk.u64_in _ ⟨by omega, by omega⟩
  have hlo : w.heap.size < w1.heap.size := HK.out.lt
  go_region_held3 (fun w' => w'.cell? ⟨w.heap.size, 0, none⟩ = some (.int .u64 (d : Int)) ∧ w'.cell? ⟨w.heap.size, 1, none⟩ = some (.int .u64 (s : Int)) ∧ w'.cell? ⟨w.heap.size, 2, none⟩ = some (.int .u8 (p : Int)) ∧ w'.cell? ⟨w.heap.size, 3, none⟩ = some (.bool dr) ∧ w'.cell? ⟨w.heap.size, 4, none⟩ = some (.int .u16 (v : Int)) ∧ w'.cell? ⟨w.heap.size, 5, none⟩ = some (.int .u16 (t : Int))) (first | exact ⟨c0, c1, c2, c3, c4, c5⟩ | exact ⟨cell_al c0 hlo, cell_al c1 hlo, cell_al c2 hlo, cell_al c3 hlo, cell_al c4 hlo, cell_al c5 hlo⟩ | exact ⟨cell_ab c0 hb3 hlo, cell_ab c1 hb3 hlo, cell_ab c2 hb3 hlo, cell_ab c3 hb3 hlo, cell_ab c4 hb3 hlo, cell_ab c5 hb3 hlo⟩)
    (first | (go_at_call 15; refine (drop_any dr dn _ HN.out).mono ?_; rintro e w2 ⟨rfl, rfl⟩) | (go_at_call 14; refine (pack_blk (partsT d s p dn v t) _ _ _ _ _ _ _ _ (Blk.fresh _ _ _).drew rfl rfl (by simp) HV.out HP.out).mono ?_; rintro e w3 ⟨rfl, hb3⟩))
  have e6 := cell_ab c6 hb3 hlo
  have HB3 := Lib.hid (below_ab HB1.out (by omega) hb3)
  rw [HBs.out]
  clear hb3 c0 c1 c2 c3 c4 c5 c6 q1 q2 q3
  go_wp2
  go_ret2
  exact ⟨rfl, HB3.out⟩
set_option maxHeartbeats 1000000 in
theorem close_no (k d s p v t : Nat) (dr : Bool) (b : ByteArray) (w : World) (hs : s < 18446744073709551616) (hb : b.size ≤ maxLen) (hw : wrongT (frT d s p dr v t b) = k) (hk : k ≠ 0) :
    Calls Try.prog 7 #[frV d s p dr v t b] w fun e w' => e = .returned (.tuple #[.string ⟨#[]⟩, .int .i64 (k : Int)]) ∧ Below w.heap.size w w' := by
  have HW := Lib.hid hw; clear hw
  have hk0 : ((k : Int) != 0) = true := by simp [hk]
  go_enter Try.func7, Try.ntmps7
  go_wp2_with fail
  refine (wrong_at k d s p v t dr b _ HW.out hs hb).mono ?_
  rintro e w1 ⟨rfl, hb1⟩
  have HB1 := Lib.hid ((((Below.refl w.heap.size w).alloc (Nat.le_refl _) (.cells #[.int .u64 (d : Int), .int .u64 (s : Int), .int .u8 (p : Int), .bool dr, .int .u16 (v : Int), .int .u16 (t : Int), .string b] 26))).trans (hb1.mono (by simp)))
  clear hb1
  go_wp2
  go_ret2
  exact ⟨rfl, HB1.out⟩
end Go.Proofs.Ytomchhjemfldnaa.Tg
