/-
  Filter: Outs of both sides, the document's Has, the example.
-/
import Derived.Test.YteaghbdeleaanaaFpA
namespace Go.Proofs.Yteaghbdeleaanaa.Fp
open Go.RowKit Go.Proofs.Yteaghbdeleaanaa.Bt Go.Proofs.Yteaghbdeleaanaa.Mm Go.Proofs.Yteaghbdeleaanaa.Fl Go.Proofs.Yteaghbdeleaanaa.Rf Go.Proofs.Yteaghbdeleaanaa.Tg
set_option linter.unusedVariables false
set_option linter.unusedSimpArgs false
theorem ints_snoc (L : List Int) (x : Int) : ints (L ++ [x]) = ints L ++ [.int .i64 x] := by simp [ints]

set_option maxRecDepth 100000 in
set_option maxHeartbeats 2000000 in
theorem outs_t (a b : Bool) (i : Int) (L : List Int) (w : World) (hL : Hid (outL a b i 3 = L)) : Calls Try.prog 21 #[shV a b, .int .i64 i] w fun e w' => ∃ (A : Option Addr) (c : Nat), e = .returned (.slice A L.length c) ∧ Rd w' w'.heap.size A (ints L) ∧ Below w.heap.size w w' := by
  have HA0 := Lib.hid (Blk.fresh w 40 (shC a b))
  have HB0 := Lib.hid ((Below.refl w.heap.size w).alloc (Nat.le_refl _) (.cells (shC a b) 40))
  obtain ⟨j0, hj, hy0, hy1, hy2⟩ := info_parts info_int
  go_enter Try.func21, Try.ntmps21
  go_upto_region 1 with (fail)
  generalize w.alloc (.cells (shC a b) 40) = w0 at HA0 HB0 ⊢
  have hg0 := HA0.out.lt
  have HW := Lib.hid (Below.refl w0.heap.size w0)
  go_wp2_with fail
  go_loopw [5, 7] (fun v x wr => ∃ (k : Nat) (R : Option Addr) (rc : Nat), k ≤ 3 ∧ x = .int .i64 k ∧ v = .slice R (outL a b i k).length rc ∧ wr.ownsRow w0.heap.size 3 1 (.slice R (outL a b i k).length rc) (outL a b i k).length (ints (outL a b i k)) ∧ Below w0.heap.size w0 wr) (fun _ x _ => 3 - (intOf x).toNat)
  case atStart => exact ⟨0, none, 0, Nat.zero_le _, rfl, rfl, World.ownsRow_nil _ _ _ _, HW.out⟩
  case round =>
    obtain ⟨k, R, rc, hk, rfl, rfl, hown, hb⟩ := hrel
    have hsz := hb.size
    have HB := Lib.hid hb
    have HO := Lib.hid hown
    have HA := Lib.hid (HA0.out.below hb hg0)
    clear hb hown
    by_cases hlt : k < 3
    · have hlen := out_len a b i k
      obtain ⟨t, ht⟩ : ∃ t, daF a b i (k : Int) = t := ⟨_, rfl⟩
      have HT := Lib.hid ht
      have HYES := Lib.hid (show daF a b i (k : Int) = true → outL a b i (k + 1) = outL a b i k ++ [(k : Int)] from fun h => out_yes h)
      have HNO := Lib.hid (show daF a b i (k : Int) = false → outL a b i (k + 1) = outL a b i k from fun h => out_no h)
      clear ht
      generalize outL a b i k = l at HO hlen HYES HNO ⊢
      obtain ⟨n, hn⟩ : ∃ n, n = l.length := ⟨_, rfl⟩
      rw [← hn] at HO hlen ⊢
      have HN := Lib.hid hn
      clear hn
      go_wp2_with (refine wpList_loadS rfl _ rfl _ rfl _ _ HA.out ?_)
      refine (data_t _ _ _ _ _ _ HT).mono ?_
      rintro e w1 ⟨rfl, hbc⟩
      have HB1 := Lib.hid (HB.out.trans (hbc.mono hsz))
      have HO1 := Lib.hid (own_below HO.out hbc)
      have hsz1 := HB1.out.size
      clear hbc
      cases t
      · go_wp2
        go_roundw
        case rel => exact ⟨k + 1, R, rc, by omega, by go_num, by rw [HNO.out HT.out, ← HN.out], by rw [HNO.out HT.out, ← HN.out]; exact HO1.out, HB1.out⟩
        case measure => simp [intOf]; omega
      · go_wp2_with (at_builtin; refine wpList_append_own _ rfl (.tmp 14) (.tmp 16) 37 rfl w0.heap.size 3 j0 (.int .i64 0) 1 8 Try.underlying37 hj hy0 hy1 hy2 rfl (by decide) _ _ _ rfl (HO1.out.alloc _) ⟨w1.heap.size, 0, none⟩ 1 1 [.int .i64 (k : Int)] rfl rfl (cell_new _ _ _) (by intro u hu; simp at hu; subst hu; rfl) (by unfold maxLen; omega) (by omega) (by simp; omega) ?_; intro v' w2 hown' hgrow _)
        obtain ⟨R', rc', rfl⟩ := own_slice hown'
        have HB2 := Lib.hid (below_own (HB1.out.alloc hsz1 _) (HO1.out.alloc _) (by simp; omega) hgrow)
        have HO2 := Lib.hid hown'
        clear hown' hgrow
        have hnn : (l ++ [(k : Int)]).length = n + 1 := by rw [List.length_append, ← HN.out]; rfl
        have HNN := Lib.hid hnn
        clear hnn
        go_wp2
        go_roundw
        case rel => exact ⟨k + 1, R', rc', by omega, by go_num, by rw [HYES.out HT.out, HNN.out], by rw [HYES.out HT.out, HNN.out, ints_snoc]; exact HO2.out, HB2.out⟩
        case measure => simp [intOf]; omega
    · obtain rfl : k = 3 := by omega
      rw [hL.out] at HO ⊢
      have hrd := Rd.of_own HO.out
      have HRD := Lib.hid hrd
      clear hrd HO
      go_wp2
      go_ret
      exact ⟨R, rc, rfl, HRD.out, HB0.out.trans (HB.out.mono HB0.out.size)⟩
/-- the same, the list's length a letter -/
theorem outs_n (a b : Bool) (i : Int) (L : List Int) (n : Nat) (w : World) (hL : Hid (outL a b i 3 = L)) (hn : Hid (L.length = n)) : Calls Try.prog 21 #[shV a b, .int .i64 i] w fun e w' => ∃ (A : Option Addr) (c : Nat), e = .returned (.slice A n c) ∧ Rd w' w'.heap.size A (ints L) ∧ Below w.heap.size w w' := by
  obtain rfl := hn.out
  exact outs_t a b i L w hL
theorem one_sh (a b : Bool) : (shC a b).all (·.oneCell') = true := by kernel_rfl
theorem blk_put {w : World} {g : Nat} {t : TypeId} {old : Array Value} (h : Blk w g t old) (cs : Array Value) : Blk (w.setRow g cs) g t cs := setRow_heap w g old cs t (0, 0) h
theorem below_put {B g : Nat} {w0 w : World} (hb : Below B w0 w) (hBg : B ≤ g) (cs : Array Value) : Below B w0 (w.setRow g cs) :=
  hb.trans ⟨rfl, rfl, rfl, by simp [World.setRow], fun k hk => setRow_other w g k cs (by omega)⟩

theorem awake18 (w : World) : Calls Try.prog 11 #[] w fun e w' => e = .returned (.bool true) ∧ Below w.heap.size w w' := by
  have HL := Lib.hid (show outL true false 1 3 = [2] by decide)
  have HO := Lib.hid (show opF true false 1 = true by decide)
  go_enter Try.func11, Try.ntmps11
  go_wp2_with fail
  refine (outs_t true false 1 _ w HL).mono ?_
  rintro e w1 ⟨A, c, rfl, hr, hb⟩
  obtain ⟨ad, rfl, hbl, hcell⟩ := hr (by decide)
  have c0 : w1.cell? ad = some (.int .i64 2) := by
    have h0 := hcell 0 (.int .i64 2) rfl
    rwa [show ad.add 0 = ad from rfl] at h0
  have HB := Lib.hid hb
  clear hcell hb hr
  go_wp2_with fail
  refine (open_t true false 1 _ _ HO).mono ?_
  rintro e w2 ⟨rfl, hb⟩
  have HB2 := Lib.hid (HB.out.trans (hb.mono HB.out.size))
  clear hb
  go_wp2
  go_ret
  exact ⟨rfl, HB2.out⟩

end Go.Proofs.Yteaghbdeleaanaa.Fp
