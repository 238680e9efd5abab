/-
  Contract of the document's Close of a line's message; both answer closeC.
  Contract of ccm's Open.
-/
import Derived.Test.YtoiggajjbjcabaaCcmA
import Derived.Test.YtoiggajjbjcabaaRapB
namespace Go.Proofs.Ytoiggajjbjcabaa.Cc
open Go.RowKit Go.Proofs.Ytoiggajjbjcabaa.Bt Go.Proofs.Ytoiggajjbjcabaa.Mm Go.Proofs.Ytoiggajjbjcabaa.Fl Go.Proofs.Ytoiggajjbjcabaa.Lw Go.Proofs.Ytoiggajjbjcabaa.Hx Go.Proofs.Ytoiggajjbjcabaa.Mc Go.Proofs.Ytoiggajjbjcabaa.Tg Go.Proofs.Ytoiggajjbjcabaa.Oa Go.Proofs.Ytoiggajjbjcabaa.Rp
theorem nat_eq_t {a : Nat} (h : a = 0) : ((a : Int) == 0) = true := by simp [h]
theorem nat_eq_f {a : Nat} (h : a ≠ 0) : ((a : Int) == 0) = false := by simpa using h
theorem close_at {bs : List UInt8} {r : Nat} (b : Bool) (p c e : Nat) (g : ByteArray) (l : Nat) (w : World) (h : closeC ⟨b, p, c, e, g.data.toList⟩ l = (bs, r)) (hc : c < 4294967296) :
    Calls Try.prog 36 #[cmV b p c e g, .int .u8 (l : Int)] w fun x w' => x = .returned (.tuple #[.string ⟨bs.toArray⟩, .int .i64 (r : Int)]) ∧ Below w.heap.size w w' := by
  unfold closeC at h
  by_cases h1 : badC ⟨b, p, c, e, g.data.toList⟩ l
  · rw [if_pos h1] at h
    simp only [Prod.mk.injEq] at h
    obtain ⟨rfl, rfl⟩ := h
    exact close_wrong b p c e g l 4 w (if_pos h1) (by omega)
  rw [if_neg h1] at h
  by_cases h2 : g.data.toList.length ≠ 48
  · rw [if_pos h2] at h
    simp only [Prod.mk.injEq] at h
    obtain ⟨rfl, rfl⟩ := h
    refine close_wrong b p c e g l 3 w ?_ (by omega)
    unfold wrongC
    rw [if_neg h1, if_pos h2]
  rw [if_neg h2] at h
  have h3 : wrongC ⟨b, p, c, e, g.data.toList⟩ l = 0 := by unfold wrongC; rw [if_neg h1, if_neg h2]
  unfold badC at h1
  simp only at h1
  have hg : g.size = 48 := by rw [← size_list]; simpa using h2
  have hf : p + bitN b 128 < 256 := by unfold bitN; split <;> omega
  refine close_ok b p c e g l (p + bitN b 128) ⟨#[UInt8.ofNat (p + bitN b 128)]⟩ ⟨(putB c 4 ++ putB e 2).toArray⟩ _ bs r w h3 (by omega) hc (by omega) hg (pack_flags b p (by omega)) (pack_cont c e hc (by omega)) (show 0 < 1 by omega) (ofNat_toNat _ hf) hf (by rw [size_mk, List.length_append, length_putB, length_putB]) rfl ?_
  rw [← h]
  congr 1
  simp [content]
end Go.Proofs.Ytoiggajjbjcabaa.Cc
namespace Go.Proofs.Ytoiggajjbjcabaa.Cc
open Go.RowKit Go.Proofs.Ytoiggajjbjcabaa.Bt Go.Proofs.Ytoiggajjbjcabaa.Mm Go.Proofs.Ytoiggajjbjcabaa.Fl Go.Proofs.Ytoiggajjbjcabaa.Lw Go.Proofs.Ytoiggajjbjcabaa.Hx Go.Proofs.Ytoiggajjbjcabaa.Mc Go.Proofs.Ytoiggajjbjcabaa.Tg Go.Proofs.Ytoiggajjbjcabaa.Oa Go.Proofs.Ytoiggajjbjcabaa.Rp
set_option linter.unusedSimpArgs false
set_option linter.unusedVariables false

abbrev zeroCC : Array Value := #[.bool false, .int .u8 0, .int .u32 0, .int .u16 0, .string ⟨#[]⟩]
abbrev zeroCV : Value := .agg zeroCC
theorem info_cmsg : (Try.prog.info? 62).map (·.size) = some 5 := by kernel_rfl
abbrev widthsF : List Int := [1, 4, 3]
abbrev widthsC : List Int := [32, 3, 13]
theorem split_flags (c : ByteArray) (h : c.size = 1) : splitR c widthsF = ([byteAt c.data.toList 0 / 128, byteAt c.data.toList 0 / 8 % 16, byteAt c.data.toList 0 % 8], c.extract 1 c.size, 0) := by
  have e1 : widthsF.all okW = true := by decide
  have e2 : tot widthsF = 8 := by decide
  have ev : valsOf c widthsF = [getB c 0 1, getB c 1 4, getB c 5 3] := rfl
  have j0 := getB_join c 0 1 7 (by omega)
  have j1 := getB_join c 1 4 3 (by omega)
  have b0 := byte_get c 0 (by omega)
  have l0 := getB_lt c 0 1
  have l1 := getB_lt c 1 4
  have l2 := getB_lt c 5 3
  simp only [Nat.reduceAdd, Nat.reduceMul, Nat.reducePow, Nat.zero_add, Nat.mul_zero, Nat.mul_one] at j0 j1 b0 l0 l1 l2
  have p0 : getB c 0 1 = byteAt c.data.toList 0 / 128 := by omega
  have p1 : getB c 1 4 = byteAt c.data.toList 0 / 8 % 16 := by omega
  have p2 : getB c 5 3 = byteAt c.data.toList 0 % 8 := by omega
  unfold splitR
  rw [if_pos e1, e2, if_pos (by decide), if_pos (by omega), ev, p0, p1, p2]
theorem split_cont (c : ByteArray) (h : c.size = 70) : splitR c widthsC = ([getN c.data.toList 0 4, getN c.data.toList 4 2 / 8192, getN c.data.toList 4 2 % 8192], c.extract 6 c.size, 0) := by
  have e1 : widthsC.all okW = true := by decide
  have e2 : tot widthsC = 48 := by decide
  have ev : valsOf c widthsC = [getB c 0 32, getB c 32 3, getB c 35 13] := rfl
  have j0 := getB_join c 32 3 13 (by omega)
  have g0 := getB_getN c 0 4
  have g1 := getB_getN c 4 2
  have l2 := getB_lt c 35 13
  simp only [Nat.reduceAdd, Nat.reduceMul, Nat.reducePow, Nat.zero_add, Nat.mul_zero, Nat.mul_one] at j0 g0 g1 l2
  have p1 : getB c 32 3 = getN c.data.toList 4 2 / 8192 := by omega
  have p2 : getB c 35 13 = getN c.data.toList 4 2 % 8192 := by omega
  unfold splitR
  rw [if_pos e1, e2, if_pos (by decide), if_pos (by omega), ev, g0, p1, p2]
/-- cells of two slices that were read -/
def St4 (B : Nat) (a1 a2 : Addr) (x0 x2 y0 y2 : Nat) (w : World) : Prop :=
  B ≤ w.heap.size ∧ a1.block < B ∧ a2.block < B ∧ w.cell? a1 = some (.int .u64 (x0 : Int)) ∧ w.cell? ⟨a1.block, a1.off + 2, none⟩ = some (.int .u64 (x2 : Int)) ∧ w.cell? a2 = some (.int .u64 (y0 : Int)) ∧ w.cell? ⟨a2.block, a2.off + 2, none⟩ = some (.int .u64 (y2 : Int))
theorem st4_keeps (B : Nat) (a1 a2 : Addr) (x0 x2 y0 y2 : Nat) : Rg.Keeps (St4 B a1 a2 x0 x2 y0 y2) := by
  rintro w w' ⟨h0, h1, h2, c0, c1, c2, c3⟩ hb
  exact ⟨Nat.le_trans h0 hb.size, h1, h2, (hb.cell (Nat.lt_of_lt_of_le h1 h0)).trans c0, (hb.cell (p := ⟨a1.block, a1.off + 2, none⟩) (Nat.lt_of_lt_of_le h1 h0)).trans c1, (hb.cell (Nat.lt_of_lt_of_le h2 h0)).trans c2, (hb.cell (p := ⟨a2.block, a2.off + 2, none⟩) (Nat.lt_of_lt_of_le h2 h0)).trans c3⟩
theorem st4_set {B : Nat} {a1 a2 : Addr} {x0 x2 y0 y2 : Nat} {w : World} (h : St4 B a1 a2 x0 x2 y0 y2 w) {g : Nat} (hg : B ≤ g) (v0 v1 v2 v3 v4 : Value) : St4 B a1 a2 x0 x2 y0 y2 (Rw5.set w g v0 v1 v2 v3 v4) := by
  obtain ⟨h0, h1, h2, c0, c1, c2, c3⟩ := h
  have hb : Below B w (Rw5.set w g v0 v1 v2 v3 v4) := Rw5.below_set ((Below.refl w.heap.size w).mono h0) hg _ _ _ _ _
  exact ⟨Nat.le_trans h0 hb.size, h1, h2, (hb.cell h1).trans c0, (hb.cell (p := ⟨a1.block, a1.off + 2, none⟩) h1).trans c1, (hb.cell h2).trans c2, (hb.cell (p := ⟨a2.block, a2.off + 2, none⟩) h2).trans c3⟩
theorem lv_true (w : World) : Calls Try.prog 41 #[.bool true] w fun e w' => e = .returned (.int .u64 1) ∧ w = w' := lv_any true w

end Go.Proofs.Ytoiggajjbjcabaa.Cc
