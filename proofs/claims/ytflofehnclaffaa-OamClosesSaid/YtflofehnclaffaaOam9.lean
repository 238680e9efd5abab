/-
  Contract of the document's Open.
-/
import Derived.Test.YtflofehnclaffaaOam8
namespace Go.Proofs.Ytflofehnclaffaa.Oa
open Go.RowKit Go.Proofs.Ytflofehnclaffaa.Bt Go.Proofs.Ytflofehnclaffaa.Mm Go.Proofs.Ytflofehnclaffaa.Fl Go.Proofs.Ytflofehnclaffaa.Lw Go.Proofs.Ytflofehnclaffaa.Tg

set_option maxRecDepth 100000 in
set_option maxHeartbeats 1000000 in
theorem ropen_short (s : ByteArray) (w : World) (h : s.size < 4) :
    Calls Try.prog 10 #[.string s] w fun e w' => e = .returned (.tuple #[hdV 0 0 0 0 0, .string ⟨#[]⟩, .int .i64 1]) ∧ Below w.heap.size w w' := by
  have h1 : decide ((s.size : Int) < 4) = true := by simp; omega
  go_enter Try.func10, Try.ntmps10
  go_wp2
  (try simp only [Exit.inBlock, Exit.then]); refine bodyPost_ret (results_row3 rfl _ _ w.heap.size 30 _ (0, 0) _ rfl (Blk.fresh _ _ _) Try.underlying30 rfl info_rhead) rfl ?_
  exact ⟨rfl, (Below.refl w.heap.size w).alloc (Nat.le_refl _) _⟩
set_option maxRecDepth 100000 in
set_option maxHeartbeats 1000000 in
theorem ropen_few (s : ByteArray) (n : Nat) (w : World) (h : 4 ≤ s.size) (h2 : s.size < 5 + n) (hn : (s[3]).toNat = n) (hn2 : n < 256) :
    Calls Try.prog 10 #[.string s] w fun e w' => e = .returned (.tuple #[hdV 0 0 0 0 0, .string ⟨#[]⟩, .int .i64 1]) ∧ Below w.heap.size w w' := by
  have h1 : decide ((s.size : Int) < 4) = false := by simp; omega
  have q1 : IntKind.i64.wrap (n : Int) = (n : Int) := IntWalk.i64_in _ ⟨by omega, by omega⟩
  have q2 : IntKind.i64.wrap (5 + (n : Int)) = 5 + (n : Int) := IntWalk.i64_in _ ⟨by omega, by omega⟩
  have h3 : decide ((s.size : Int) < 5 + (n : Int)) = true := by simp; omega
  go_enter Try.func10, Try.ntmps10
  go_wp2
  (try simp only [Exit.inBlock, Exit.then]); refine bodyPost_ret (results_row3 rfl _ _ w.heap.size 30 _ (0, 0) _ rfl (Blk.fresh _ _ _) Try.underlying30 rfl info_rhead) rfl ?_
  exact ⟨rfl, (Below.refl w.heap.size w).alloc (Nat.le_refl _) _⟩
set_option maxRecDepth 100000 in
set_option maxHeartbeats 1000000 in
theorem ropen_end (s : ByteArray) (n m b : Nat) (w : World) (h : 4 ≤ s.size) (h2 : m < s.size) (hn : (s[3]).toNat = n) (hn2 : n < 256) (hm : 4 + n = m) (hb : (s[m]).toNat = b) (hb0 : b ≠ 0) :
    Calls Try.prog 10 #[.string s] w fun e w' => e = .returned (.tuple #[hdV 0 0 0 0 0, .string ⟨#[]⟩, .int .i64 3]) ∧ Below w.heap.size w w' := by
  have h1 : decide ((s.size : Int) < 4) = false := by simp; omega
  have q1 : IntKind.i64.wrap (n : Int) = (n : Int) := IntWalk.i64_in _ ⟨by omega, by omega⟩
  have q2 : IntKind.i64.wrap (5 + (n : Int)) = 5 + (n : Int) := IntWalk.i64_in _ ⟨by omega, by omega⟩
  have h3 : decide ((s.size : Int) < 5 + (n : Int)) = false := by simp; omega
  have hm' : 4 + (n : Int) = (m : Int) := by omega
  have q3 : IntKind.i64.wrap (m : Int) = (m : Int) := IntWalk.i64_in _ ⟨by omega, by omega⟩
  have q4 : ((b : Int) != 0) = true := by simp; omega
  have m1 : (0 : Int) ≤ (m : Int) := by omega
  have m2 : (m : Int) < (s.size : Int) := by omega
  clear hb0
  go_enter Try.func10, Try.ntmps10
  go_wp2
  (try simp only [Exit.inBlock, Exit.then]); refine bodyPost_ret (results_row3 rfl _ _ w.heap.size 30 _ (0, 0) _ rfl (Blk.fresh _ _ _) Try.underlying30 rfl info_rhead) rfl ?_
  exact ⟨rfl, (Below.refl w.heap.size w).alloc (Nat.le_refl _) _⟩
set_option maxRecDepth 100000 in
set_option maxHeartbeats 1000000 in
theorem ropen_ok (s t : ByteArray) (a l v c f n m : Nat) (w : World) (h : 4 ≤ s.size) (h2 : m < s.size) (ha : (s[0]).toNat = a) (hc : (s[1]).toNat = c) (hf : (s[2]).toNat = f) (hn : (s[3]).toNat = n) (ha2 : a < 256) (hn2 : n < 256) (hm : 4 + n = m) (hb : (s[m]).toNat = 0) (hl : a / 32 = l) (hv : a % 32 = v) (ht : s.extract 4 m = t) :
    Calls Try.prog 10 #[.string s] w fun e w' => e = .returned (.tuple #[hdV l v c f n, .string t, .int .i64 0]) ∧ Below w.heap.size w w' := by
  have h1 : decide ((s.size : Int) < 4) = false := by simp; omega
  have q1 : IntKind.i64.wrap (n : Int) = (n : Int) := IntWalk.i64_in _ ⟨by omega, by omega⟩
  have q2 : IntKind.i64.wrap (5 + (n : Int)) = 5 + (n : Int) := IntWalk.i64_in _ ⟨by omega, by omega⟩
  have h3 : decide ((s.size : Int) < 5 + (n : Int)) = false := by simp; omega
  have hm' : 4 + (n : Int) = (m : Int) := by omega
  have q3 : IntKind.i64.wrap (m : Int) = (m : Int) := IntWalk.i64_in _ ⟨by omega, by omega⟩
  have m1 : (4 : Int) ≤ (m : Int) := by omega
  have m0 : (0 : Int) ≤ (m : Int) := by omega
  have m2 : (m : Int) < (s.size : Int) := by omega
  have m3 : (m : Int) ≤ (s.size : Int) := by omega
  have t1 : (a : Int).tdiv 32 = (l : Int) := by rw [Int.tdiv_eq_ediv_of_nonneg (by omega)]; omega
  have t2 : (a : Int).tmod 32 = (v : Int) := by rw [Int.tmod_eq_emod_of_nonneg (by omega)]; omega
  have w0 : IntKind.u8.wrap (l : Int) = (l : Int) := IntWalk.u8_in _ ⟨by omega, by omega⟩
  have w1 : IntKind.u8.wrap (v : Int) = (v : Int) := IntWalk.u8_in _ ⟨by omega, by omega⟩
  clear hl hv
  go_enter Try.func10, Try.ntmps10
  go_wp2_with fail
  have HK := Lib.hid (Blk.fresh w 30 zeroHC)
  have HB := Lib.hid ((Below.refl w.heap.size w).alloc (Nat.le_refl _) (.cells zeroHC 30))
  generalize (w.alloc (.cells zeroHC 30)) = wB at *
  obtain ⟨c0, c1, c2, c3, c4, z0, z1, z2, z3, z4⟩ := Rw5.row HK.out
  go_region
  go_wp2
  (try simp only [Exit.inBlock, Exit.then]); refine bodyPost_ret (results_row3 rfl _ _ w.heap.size 30 _ (0, 0) _ rfl (Rw5.blk_set HK.out _ _ _ _ _).drew Try.underlying30 rfl info_rhead) rfl ?_
  exact ⟨rfl, (Rw5.below_set HB.out (Nat.le_refl _) _ _ _ _ _).drew⟩
theorem byte_idx (s : ByteArray) (i : Nat) (h : i < s.size) : (s[i]'h).toNat = byteAt s.data.toList i := by
  have e2 : (s[i]'h) = s.data.toList[i]'(by rw [size_list]; exact h) := rfl
  unfold byteAt
  rw [e2, List.getD_eq_getElem?_getD, List.getElem?_eq_getElem (by rw [size_list]; exact h)]
  rfl
theorem ropen_at {h : Hd} {c : List UInt8} {k : Nat} (s : ByteArray) (w : World) (ho : openO s.data.toList = (h, c, k)) :
    Calls Try.prog 10 #[.string s] w fun e w' => e = .returned (.tuple #[valH h, .string ⟨c.toArray⟩, .int .i64 (k : Int)]) ∧ Below w.heap.size w w' := by
  have hsl := size_list s
  unfold openO at ho
  rw [hsl] at ho
  by_cases h1 : s.size < 4
  · rw [if_pos (.inl h1)] at ho
    simp only [Prod.mk.injEq] at ho
    obtain ⟨rfl, rfl, rfl⟩ := ho
    exact ropen_short s w h1
  have g3 := byte_lt s.data.toList 3
  by_cases h2 : s.size < 5 + byteAt s.data.toList 3
  · rw [if_pos (.inr h2)] at ho
    simp only [Prod.mk.injEq] at ho
    obtain ⟨rfl, rfl, rfl⟩ := ho
    exact ropen_few s _ w (by omega) h2 (byte_idx s 3 (by omega)) g3
  rw [if_neg (by omega)] at ho
  by_cases h3 : byteAt s.data.toList (4 + byteAt s.data.toList 3) = 0
  · rw [if_neg (fun hn => hn h3)] at ho
    simp only [Prod.mk.injEq] at ho
    obtain ⟨rfl, rfl, rfl⟩ := ho
    have hoff : (headOf s.data.toList).offset = byteAt s.data.toList 3 := rfl
    refine ropen_ok s _ _ _ _ _ _ _ _ w (by omega) (by omega) (byte_idx s 0 (by omega)) (byte_idx s 1 (by omega)) (byte_idx s 2 (by omega)) (byte_idx s 3 (by omega)) (byte_lt _ _) g3 rfl ((byte_idx s _ (by omega)).trans h3) rfl rfl ?_
    apply ba_ext
    rw [ByteArray.data_extract, Array.toList_extract, List.extract_eq_take_drop]
    simp [hoff]
  · rw [if_pos h3] at ho
    simp only [Prod.mk.injEq] at ho
    obtain ⟨rfl, rfl, rfl⟩ := ho
    exact ropen_end s _ _ _ w (by omega) (by omega) (byte_idx s 3 (by omega)) g3 rfl (byte_idx s _ (by omega)) h3
end Go.Proofs.Ytflofehnclaffaa.Oa
