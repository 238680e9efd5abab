/-
  Filter: Outs of both sides, the document's Has, the example.
-/
import Derived.Test.YtnhhcjeoalldkaaFpA
namespace Go.Proofs.Ytnhhcjeoalldkaa.Fp
open Go.RowKit Go.Proofs.Ytnhhcjeoalldkaa.Bt Go.Proofs.Ytnhhcjeoalldkaa.Mm Go.Proofs.Ytnhhcjeoalldkaa.Fl Go.Proofs.Ytnhhcjeoalldkaa.Rf Go.Proofs.Ytnhhcjeoalldkaa.Tg
set_option linter.unusedVariables false
set_option linter.unusedSimpArgs false
theorem ints_snoc (L : List Int) (x : Int) : ints (L ++ [x]) = ints L ++ [.int .i64 x] := by simp [ints]

set_option maxHeartbeats 2000000 in
theorem outs_t (a b : Bool) (i : Int) (L : List Int) (w : World) (hL : Hid (outL a b i 3 = L)) : Calls Try.prog 5 #[shV a b, .int .i64 i] w fun e w' => ∃ (A : Option Addr) (c : Nat), e = .returned (.slice A L.length c) ∧ Rd w' w'.heap.size A (ints L) ∧ Below w.heap.size w w' := by
  have HA0 := Lib.hid (Blk.fresh w 22 (shC a b))
  have HB0 := Lib.hid ((Below.refl w.heap.size w).alloc (Nat.le_refl _) (.cells (shC a b) 22))
  obtain ⟨j0, hj, hy0, hy1, hy2⟩ := info_parts info_int
  go_enter Try.func5, Try.ntmps5
  go_upto_region 1 with (fail)
  generalize w.alloc (.cells (shC a b) 22) = w0 at HA0 HB0 ⊢
  have hg0 := HA0.out.lt
  have HW := Lib.hid (Below.refl w0.heap.size w0)
  go_wp2_with fail
  go_loopw [5, 7] (fun v x wr => ∃ (k : Nat) (R : Option Addr) (rc : Nat), k ≤ 3 ∧ x = .int .i64 k ∧ v = .slice R (outL a b i k).length rc ∧ wr.ownsRow w0.heap.size 3 1 (.slice R (outL a b i k).length rc) (outL a b i k).length (ints (outL a b i k)) ∧ Below w0.heap.size w0 wr) (fun _ x _ => 3 - (intOf x).toNat)
  case atStart => exact ⟨0, none, 0, Nat.zero_le _, rfl, rfl, World.ownsRow_nil _ _ _ _, HW.out⟩
  case round =>
    obtain ⟨k, R, rc, hk, rfl, rfl, hown, hb⟩ := hrel
    have hsz := hb.size
    have HB := Lib.hid hb
    have HO := Lib.hid hown
    have HA := Lib.hid (HA0.out.below hb hg0)
    clear hb hown
    by_cases hlt : k < 3
    · have hlen := out_len a b i k
      obtain ⟨t, ht⟩ : ∃ t, daF a b i (k : Int) = t := ⟨_, rfl⟩
      have HT := Lib.hid ht
      have HYES := Lib.hid (show daF a b i (k : Int) = true → outL a b i (k + 1) = outL a b i k ++ [(k : Int)] from fun h => out_yes h)
      have HNO := Lib.hid (show daF a b i (k : Int) = false → outL a b i (k + 1) = outL a b i k from fun h => out_no h)
      clear ht
      generalize outL a b i k = l at HO hlen HYES HNO ⊢
      obtain ⟨n, hn⟩ : ∃ n, n = l.length := ⟨_, rfl⟩
      rw [← hn] at HO hlen ⊢
      have HN := Lib.hid hn
      clear hn
      go_wp2_with (refine wpList_loadS rfl _ rfl _ rfl _ _ HA.out ?_)
      refine (data_t _ _ _ _ _ _ HT).mono ?_
      rintro e w1 ⟨rfl, hbc⟩
      have HB1 := Lib.hid (HB.out.trans (hbc.mono hsz))
      have HO1 := Lib.hid (own_below HO.out hbc)
      have hsz1 := HB1.out.size
      clear hbc
      cases t
      · go_wp2
        go_roundw
        case rel => exact ⟨k + 1, R, rc, by omega, by go_num, by rw [HNO.out HT.out, ← HN.out], by rw [HNO.out HT.out, ← HN.out]; exact HO1.out, HB1.out⟩
        case measure => simp [intOf]; omega
      · go_wp2_with (at_builtin; refine wpList_append_own _ rfl (.tmp 14) (.tmp 16) 23 rfl w0.heap.size 3 j0 (.int .i64 0) 1 8 Try.underlying23 hj hy0 hy1 hy2 rfl (by decide) _ _ _ rfl (HO1.out.alloc _) ⟨w1.heap.size, 0, none⟩ 1 1 [.int .i64 (k : Int)] rfl rfl (cell_new _ _ _) (by intro u hu; simp at hu; subst hu; rfl) (by unfold maxLen; omega) (by omega) (by simp; omega) ?_; intro v' w2 hown' hgrow _)
        obtain ⟨R', rc', rfl⟩ := own_slice hown'
        have HB2 := Lib.hid (below_own (HB1.out.alloc hsz1 _) (HO1.out.alloc _) (by simp; omega) hgrow)
        have HO2 := Lib.hid hown'
        clear hown' hgrow
        have hnn : (l ++ [(k : Int)]).length = n + 1 := by rw [List.length_append, ← HN.out]; rfl
        have HNN := Lib.hid hnn
        clear hnn
        go_wp2
        go_roundw
        case rel => exact ⟨k + 1, R', rc', by omega, by go_num, by rw [HYES.out HT.out, HNN.out], by rw [HYES.out HT.out, HNN.out, ints_snoc]; exact HO2.out, HB2.out⟩
        case measure => simp [intOf]; omega
    · obtain rfl : k = 3 := by omega
      rw [hL.out] at HO ⊢
      have hrd := Rd.of_own HO.out
      have HRD := Lib.hid hrd
      clear hrd HO
      go_wp2
      go_ret
      exact ⟨R, rc, rfl, HRD.out, HB0.out.trans (HB.out.mono HB0.out.size)⟩
set_option maxHeartbeats 2000000 in
theorem routs_t (a b : Bool) (i : Int) (L : List Int) (w : World) (hL : Hid (outL a b i 3 = L)) : Calls Try.prog 6 #[shV a b, .int .i64 i] w fun e w' => ∃ (A : Option Addr) (c : Nat), e = .returned (.slice A L.length c) ∧ Rd w' w'.heap.size A (ints L) ∧ Below w.heap.size w w' := by
  have HA0 := Lib.hid (Blk.fresh w 22 (shC a b))
  have HB0 := Lib.hid ((Below.refl w.heap.size w).alloc (Nat.le_refl _) (.cells (shC a b) 22))
  obtain ⟨j0, hj, hy0, hy1, hy2⟩ := info_parts info_int
  go_enter Try.func6, Try.ntmps6
  go_upto_region 1 with (fail)
  generalize w.alloc (.cells (shC a b) 22) = w0 at HA0 HB0 ⊢
  have hg0 := HA0.out.lt
  have HW := Lib.hid (Below.refl w0.heap.size w0)
  go_wp2_with fail
  go_loopw [5, 6] (fun v x wr => ∃ (k : Nat) (R : Option Addr) (rc : Nat), k ≤ 3 ∧ x = .int .i64 k ∧ v = .slice R (outL a b i k).length rc ∧ wr.ownsRow w0.heap.size 3 1 (.slice R (outL a b i k).length rc) (outL a b i k).length (ints (outL a b i k)) ∧ Below w0.heap.size w0 wr) (fun _ x _ => 3 - (intOf x).toNat)
  case atStart => exact ⟨0, none, 0, Nat.zero_le _, rfl, rfl, World.ownsRow_nil _ _ _ _, HW.out⟩
  case round =>
    obtain ⟨k, R, rc, hk, rfl, rfl, hown, hb⟩ := hrel
    have hsz := hb.size
    have HB := Lib.hid hb
    have HO := Lib.hid hown
    have HA := Lib.hid (HA0.out.below hb hg0)
    clear hb hown
    by_cases hlt : k < 3
    · have hlen := out_len a b i k
      obtain ⟨t, ht⟩ : ∃ t, daF a b i (k : Int) = t := ⟨_, rfl⟩
      have HYES := Lib.hid (show daF a b i (k : Int) = true → outL a b i (k + 1) = outL a b i k ++ [(k : Int)] from fun h => out_yes h)
      have HNO := Lib.hid (show daF a b i (k : Int) = false → outL a b i (k + 1) = outL a b i k from fun h => out_no h)
      generalize outL a b i k = l at HO hlen HYES HNO ⊢
      obtain ⟨n, hn⟩ : ∃ n, n = l.length := ⟨_, rfl⟩
      rw [← hn] at HO hlen ⊢
      have HN := Lib.hid hn
      clear hn
      obtain ⟨x, hx⟩ : ∃ x, opF a b i = x := ⟨_, rfl⟩
      obtain ⟨y, hy⟩ : ∃ y, opF a b (k : Int) = y := ⟨_, rfl⟩
      have HX := Lib.hid hx
      have HY := Lib.hid hy
      clear hx hy
      by_cases hki : (k : Int) = i
      · have HT := Lib.hid (show daF a b i (k : Int) = false by rw [hki]; exact da_self a b i)
        have e0 : ((k : Int) != i) = false := by simpa using hki
        have e1 : ((k : Int) == i) = true := by simpa using hki
        clear ht
        go_wp2
        go_roundw
        case rel => exact ⟨k + 1, R, rc, by omega, by go_num, by rw [HNO.out HT.out, ← HN.out], by rw [HNO.out HT.out, ← HN.out]; exact HO.out, HB.out⟩
        case measure => simp [intOf]; omega
      · have hd : daF a b i (k : Int) = (x && y) := by unfold daF; rw [HX.out, HY.out, decide_eq_true (show i ≠ (k : Int) from fun e => hki e.symm), Bool.true_and]
        have HT := Lib.hid hd
        have e0 : ((k : Int) != i) = true := by simpa using hki
        have e1 : ((k : Int) == i) = false := by simpa using hki
        clear ht hd
        go_wp2_with (refine wpList_loadS rfl _ rfl _ rfl _ _ HA.out ?_)
        refine (ropen_t _ _ _ _ _ HY).mono ?_
        rintro e w1 ⟨rfl, hbc⟩
        have HA1 := Lib.hid (HA.out.below hbc HA.out.lt)
        have HB1 := Lib.hid (HB.out.trans (hbc.mono hsz))
        have HO1 := Lib.hid (own_below HO.out hbc)
        have hsz1 := HB1.out.size
        clear hbc
        cases y
        · have HT2 := Lib.hid (show daF a b i (k : Int) = false by rw [HT.out, Bool.and_false])
          go_wp2
          go_roundw
          case rel => exact ⟨k + 1, R, rc, by omega, by go_num, by rw [HNO.out HT2.out, ← HN.out], by rw [HNO.out HT2.out, ← HN.out]; exact HO1.out, HB1.out⟩
          case measure => simp [intOf]; omega
        · go_wp2_with (refine wpList_loadS rfl _ rfl _ rfl _ _ HA1.out ?_)
          refine (ropen_t _ _ _ _ _ HX).mono ?_
          rintro e w4 ⟨rfl, hbc⟩
          have HB4 := Lib.hid (HB1.out.trans (hbc.mono hsz1))
          have HO4 := Lib.hid (own_below HO1.out hbc)
          have hsz4 := HB4.out.size
          clear hbc
          cases x
          · have HT2 := Lib.hid (show daF a b i (k : Int) = false by rw [HT.out]; rfl)
            go_wp2
            go_roundw
            case rel => exact ⟨k + 1, R, rc, by omega, by go_num, by rw [HNO.out HT2.out, ← HN.out], by rw [HNO.out HT2.out, ← HN.out]; exact HO4.out, HB4.out⟩
            case measure => simp [intOf]; omega
          · have HT2 := Lib.hid (show daF a b i (k : Int) = true by rw [HT.out]; rfl)
            go_wp2_with (at_builtin; refine wpList_append_own _ rfl (.tmp 24) (.tmp 26) 23 rfl w0.heap.size 3 j0 (.int .i64 0) 1 8 Try.underlying23 hj hy0 hy1 hy2 rfl (by decide) _ _ _ rfl (HO4.out.alloc _) ⟨w4.heap.size, 0, none⟩ 1 1 [.int .i64 (k : Int)] rfl rfl (cell_new _ _ _) (by intro u hu; simp at hu; subst hu; rfl) (by unfold maxLen; omega) (by omega) (by simp; omega) ?_; intro v' w2 hown' hgrow _)
            obtain ⟨R', rc', rfl⟩ := own_slice hown'
            have HB2 := Lib.hid (below_own (HB4.out.alloc HB4.out.size _) (HO4.out.alloc _) (by simp; omega) hgrow)
            have HO2 := Lib.hid hown'
            clear hown' hgrow
            have hnn : (l ++ [(k : Int)]).length = n + 1 := by rw [List.length_append, ← HN.out]; rfl
            have HNN := Lib.hid hnn
            clear hnn
            go_wp2
            go_roundw
            case rel => exact ⟨k + 1, R', rc', by omega, by go_num, by rw [HYES.out HT2.out, HNN.out], by rw [HYES.out HT2.out, HNN.out, ints_snoc]; exact HO2.out, HB2.out⟩
            case measure => simp [intOf]; omega
    · obtain rfl : k = 3 := by omega
      rw [hL.out] at HO ⊢
      have hrd := Rd.of_own HO.out
      have HRD := Lib.hid hrd
      clear hrd HO
      go_wp2
      go_ret
      exact ⟨R, rc, rfl, HRD.out, HB0.out.trans (HB.out.mono HB0.out.size)⟩
theorem has_t (L : List Int) (p : Int) (t : Bool) (A : Option Addr) (c B : Nat) (w : World) (hR : Rd w B A (ints L)) (hl : L.length ≤ 3) (ht : Hid (decide (p ∈ L) = t)) : Calls Try.prog 11 #[.slice A L.length c, .int .i64 p] w fun e w' => e = .returned (.bool t) ∧ w = w' := by
  have HR := Lib.hid hR
  obtain ⟨n, hn⟩ : ∃ n, n = L.length := ⟨_, rfl⟩
  have HN := Lib.hid hn
  rw [← hn] at hl ⊢
  clear hR hn
  go_enter Try.func11, Try.ntmps11
  go_wp2_with fail
  go_loop [5] (fun x => ∃ k : Nat, k ≤ n ∧ x = .int .i64 k ∧ Hid (p ∉ L.take k)) (fun x => n - (intOf x).toNat)
  case atStart => exact ⟨0, Nat.zero_le _, rfl, Lib.hid (by simp)⟩
  case round =>
    obtain ⟨k, hk, rfl, HM⟩ := hrel
    by_cases hlt : k < n
    · have hkl : k < L.length := by rw [← HN.out]; exact hlt
      obtain ⟨ad, rfl, hbl, hcell⟩ := HR.out (by rw [length_ints]; omega)
      have c0 := hcell k _ (get_ints L k hkl)
      clear hcell
      have hs : L.take (k + 1) = L.take k ++ [L[k]] := List.take_succ_eq_append_getElem hkl
      have hmem : L[k] ∈ L := List.getElem_mem hkl
      generalize L[k] = z at c0 hs hmem
      have HS := Lib.hid hs
      have HZ := Lib.hid hmem
      clear hs hmem hkl
      by_cases hz : z = p
      · have e1 : (z == p) = true := by simpa using hz
        obtain rfl : true = t := (decide_eq_true (show p ∈ L by rw [← hz]; exact HZ.out)).symm.trans ht.out
        go_wp2
        go_ret
        exact ⟨rfl, rfl⟩
      · have e1 : (z == p) = false := by simpa using hz
        go_wp2
        go_round
        case rel => exact ⟨k + 1, by omega, by go_num, Lib.hid (by rw [HS.out, List.mem_append]; rintro (h | h); exact HM.out h; exact hz (List.mem_singleton.1 h).symm)⟩
        case measure => simp [intOf]; omega
    · obtain rfl : k = n := by omega
      have hall : L.take k = L := List.take_of_length_le (by rw [← HN.out]; exact Nat.le_refl _)
      obtain rfl : false = t := (decide_eq_false (show p ∉ L by rw [← hall]; exact HM.out)).symm.trans ht.out
      clear hall
      go_wp2
      go_ret
      exact ⟨rfl, rfl⟩

/-- the same, the list's length a letter -/
theorem outs_n (a b : Bool) (i : Int) (L : List Int) (n : Nat) (w : World) (hL : Hid (outL a b i 3 = L)) (hn : Hid (L.length = n)) : Calls Try.prog 5 #[shV a b, .int .i64 i] w fun e w' => ∃ (A : Option Addr) (c : Nat), e = .returned (.slice A n c) ∧ Rd w' w'.heap.size A (ints L) ∧ Below w.heap.size w w' := by
  obtain rfl := hn.out
  exact outs_t a b i L w hL
theorem routs_n (a b : Bool) (i : Int) (L : List Int) (n : Nat) (w : World) (hL : Hid (outL a b i 3 = L)) (hn : Hid (L.length = n)) : Calls Try.prog 6 #[shV a b, .int .i64 i] w fun e w' => ∃ (A : Option Addr) (c : Nat), e = .returned (.slice A n c) ∧ Rd w' w'.heap.size A (ints L) ∧ Below w.heap.size w w' := by
  obtain rfl := hn.out
  exact routs_t a b i L w hL
theorem has_n (L : List Int) (n : Nat) (p : Int) (t : Bool) (A : Option Addr) (c B : Nat) (w : World) (hR : Rd w B A (ints L)) (hl : n ≤ 3) (hn : Hid (L.length = n)) (ht : Hid (decide (p ∈ L) = t)) : Calls Try.prog 11 #[.slice A n c, .int .i64 p] w fun e w' => e = .returned (.bool t) ∧ w = w' := by
  obtain rfl := hn.out
  exact has_t L p t A c B w hR hl ht
theorem one_sh (a b : Bool) : (shC a b).all (·.oneCell') = true := by kernel_rfl
theorem blk_put {w : World} {g : Nat} {t : TypeId} {old : Array Value} (h : Blk w g t old) (cs : Array Value) : Blk (w.setRow g cs) g t cs := setRow_heap w g old cs t (0, 0) h
theorem below_put {B g : Nat} {w0 w : World} (hb : Below B w0 w) (hBg : B ≤ g) (cs : Array Value) : Below B w0 (w.setRow g cs) :=
  hb.trans ⟨rfl, rfl, rfl, by simp [World.setRow], fun k hk => setRow_other w g k cs (by omega)⟩

theorem awake18 (w : World) : Calls Try.prog 7 #[] w fun e w' => e = .returned (.bool true) ∧ Below w.heap.size w w' := by
  have HL := Lib.hid (show outL true false 1 3 = [2] by decide)
  have HO := Lib.hid (show opF true false 1 = true by decide)
  go_enter Try.func7, Try.ntmps7
  go_wp2_with fail
  refine (outs_t true false 1 _ w HL).mono ?_
  rintro e w1 ⟨A, c, rfl, hr, hb⟩
  obtain ⟨ad, rfl, hbl, hcell⟩ := hr (by decide)
  have c0 : w1.cell? ad = some (.int .i64 2) := by
    have h0 := hcell 0 (.int .i64 2) rfl
    rwa [show ad.add 0 = ad from rfl] at h0
  have HB := Lib.hid hb
  clear hcell hb hr
  go_wp2_with fail
  refine (open_t true false 1 _ _ HO).mono ?_
  rintro e w2 ⟨rfl, hb⟩
  have HB2 := Lib.hid (HB.out.trans (hb.mono HB.out.size))
  clear hb
  go_wp2
  go_ret
  exact ⟨rfl, HB2.out⟩

end Go.Proofs.Ytnhhcjeoalldkaa.Fp
