/-
  Contracts of field's putBits and Pack.
-/
import Derived.Test.YtflofehnclaffaaField1
import Derived.Test.YtflofehnclaffaaMem
import Derived.RegionTactic
import Derived.BigRegion
namespace Go.Proofs.Ytflofehnclaffaa.Fl
open Go.RowKit Go.Proofs.Ytflofehnclaffaa.Bt Go.Proofs.Ytflofehnclaffaa.Mm

theorem put_value (x V s t : Nat) (hV : V < 18446744073709551616) (ht : t ≤ 7) (hx : x < 256) (hm : x % 2 ^ (t + 1) = 0) :
    bits .or .u8 (x : Int) (bits .and .u64 ((V : Int) / 2 ^ s) 1 % 256 * 2 ^ t % 256) = ((x + V / 2 ^ s % 2 * 2 ^ t : Nat) : Int) := by
  rw [and_u64 V s hV]
  have hb : V / 2 ^ s % 2 < 2 := Nat.mod_lt _ (by omega)
  generalize V / 2 ^ s % 2 = b at hb
  have hp : 2 ^ t ≤ 2 ^ 7 := Nat.pow_le_pow_right (by omega) ht
  have hp' : 2 ^ t ≤ 128 := hp
  have hbt : b * 2 ^ t ≤ 128 := by
    rcases (by omega : b = 0 ∨ b = 1) with rfl | rfl <;> omega
  have e : ((b : Int) % 256 * 2 ^ t % 256) = ((b * 2 ^ t : Nat) : Int) := by
    have e1 : (b : Int) % 256 = (b : Int) := by omega
    rw [e1]
    have e2 : ((b : Int) * 2 ^ t) = ((b * 2 ^ t : Nat) : Int) := by push_cast; rfl
    rw [e2]
    omega
  rw [e, u8_or_nat _ _ hx (by omega), or_bit x b t hm hb]

/-- a bit more -/
theorem put_byte (l : List Nat) (a k W V m : Nat) (hl : Bin l) (hV : V < 18446744073709551616) (hb : nth l (a + k) = V / 2 ^ (W - 1 - k) % 2) :
    (byteCells m (byteF (upTo l (a + k)))).setIfInBounds ((a + k) / 8) (Value.int IntKind.u8
        (bits .or .u8 ((byteF (upTo l (a + k)) ((a + k) / 8) : Nat) : Int) (bits .and .u64 ((V : Int) / 2 ^ (W - 1 - k)) 1 % 256 * 2 ^ (7 - (a + k) % 8) % 256))) =
      byteCells m (byteF (upTo l (a + (k + 1)))) := by
  have hn := byteF_near l (a + k)
  rw [put_value _ V (W - 1 - k) (7 - (a + k) % 8) hV (by omega) (byteF_lt (fun i => upTo_lt hl _ i) _) (by
    rw [show 7 - (a + k) % 8 + 1 = 8 - (a + k) % 8 from by omega]; exact hn.2), ← hb]
  refine put_byteCells m _ _ _ _ ?_ ?_
  · rw [← Nat.add_assoc, hn.1]
  · intro i hi
    rw [← Nat.add_assoc, byteF_far l (a + k) i hi]

set_option maxHeartbeats 400000 in
theorem putBits_any (l : List Nat) (g m a W V : Nat) (w : World) (hl : Bin l) (hW : W ≤ 64) (hV : V < 18446744073709551616) (ha : a + W ≤ 8 * m) (hm : m ≤ 100000000)
    (hb : ∀ i, i < W → nth l (a + i) = V / 2 ^ (W - 1 - i) % 2) (hg : Blk w g 5 (byteCells m (byteF (upTo l a)))) :
    Calls Try.prog 17 #[.slice (some ⟨g, 0, none⟩) m m, .int .i64 a, .agg #[.int .i64 W, .int .u64 V]] w fun e w' => e = .returned (.tuple #[]) ∧
      Blk w' g 5 (byteCells m (byteF (upTo l (a + W)))) ∧ Only g w w' := by
  have hgl := hg.lt
  have HG := Lib.hid hg; clear hg
  have HB := Lib.hid hb; clear hb
  go_enter Try.func17, Try.ntmps17
  go_wp2
  go_loopw [10] (fun i wr => ∃ k : Nat, k ≤ W ∧ i = .int .i64 k ∧ Blk wr g 5 (byteCells m (byteF (upTo l (a + k)))) ∧ Blk wr w.heap.size 43 #[.int .i64 W, .int .u64 V] ∧ Only g w wr) (fun i _ => W - (intOf i).toNat)
  case atStart => exact ⟨0, Nat.zero_le _, rfl, HG.out.alloc _, Blk.fresh _ _ _, (Only.refl _ _).alloc _⟩
  case round =>
    obtain ⟨k, hk, rfl, hg, hx, ho⟩ := hrel
    by_cases hlt : k < W
    · have hd : (a + k) / 8 < m := by omega
      have c1 := hg.cell ((a + k) / 8)
      rw [get_byteCells _ _ _ hd] at c1
      have c2 := hg.frozen ((a + k) / 8)
      have x0 := hx.cell 0
      have x1 := hx.cell 1
      simp at x0 x1
      have HG2 := Lib.hid hg; clear hg
      have HX := Lib.hid hx; clear hx
      have HO := Lib.hid ho; clear ho
      go_wp2
      go_region
      go_wp2
      go_roundw
      case rel =>
        refine ⟨k + 1, by omega, by go_num, ?_, ?_, ?_⟩
        · have h1 := HG2.out.put ((a + k) / 8) (Value.int IntKind.u8 (bits .or .u8 ((byteF (upTo l (a + k)) ((a + k) / 8) : Nat) : Int) (bits .and .u64 ((V : Int) / 2 ^ (W - 1 - k)) 1 % 256 * 2 ^ (7 - (a + k) % 8) % 256)))
          rw [put_byte l a k W V m hl hV (HB.out k hlt)] at h1
          exact h1.drew
        · exact (HX.out.far (p := ⟨g, (a + k) / 8, none⟩) (by show w.heap.size ≠ g; omega) _).drew
        · exact (HO.out.put _ _).drew
      case measure => simp [intOf]; omega
    · go_wp2
      go_end0
      obtain rfl : k = W := by omega
      exact ⟨rfl, hg, ho⟩
end Go.Proofs.Ytflofehnclaffaa.Fl
