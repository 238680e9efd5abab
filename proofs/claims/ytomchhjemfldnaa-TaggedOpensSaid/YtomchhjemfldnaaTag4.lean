/-
  Close's contract in the document's words: its answer is closeT's.
-/
import Derived.Test.YtomchhjemfldnaaTag3
namespace Go.Proofs.Ytomchhjemfldnaa.Tg
open Go.RowKit Go.Proofs.Ytomchhjemfldnaa.Bt Go.Proofs.Ytomchhjemfldnaa.Mm Go.Proofs.Ytomchhjemfldnaa.Fl Go.Proofs.Ytomchhjemfldnaa.Rf Go.Proofs.Ytomchhjemfldnaa.Hx Go.Proofs.Ytomchhjemfldnaa.Lw Go.Proofs.Ytomchhjemfldnaa.Mc

theorem mark_bytes : bytesOf (bitsN 33024 16) = [0x81, 0] := by decide +kernel
/-- the bytes of a frame ahead of its body -/
def headBytes (d s n t : Nat) : List UInt8 := putB d 6 ++ (putB s 6 ++ ([0x81, 0] ++ (putB n 2 ++ putB t 2)))
theorem bits_tag (p dn v : Nat) (hdn : dn < 2) (hv : v < 4096) : bitsN p 3 ++ (bitsN dn 1 ++ bitsN v 12) = bitsN (p * 8192 + dn * 4096 + v) 16 := by
  rw [← bitsN_join dn v 1 12 (by simpa using hv), ← bitsN_join p (dn * 2 ^ 12 + v) 3 (1 + 12) (by simp; omega)]
  rw [show p * 2 ^ (1 + 12) + (dn * 2 ^ 12 + v) = p * 8192 + dn * 4096 + v by omega]
theorem pack_frame (d s p dn v t : Nat) (hd : d < 281474976710656) (hs : s < 281474976710656) (hp : p ≤ 7) (hdn : dn < 2) (hv : v < 4096) (ht : t < 65536) :
    packR (partsT d s p dn v t) = (headBytes d s (p * 8192 + dn * 4096 + v) t, 0) := by
  have e : allBits (partsT d s p dn v t) = bitsN d 48 ++ (bitsN s 48 ++ (bitsN 33024 16 ++ (bitsN (p * 8192 + dn * 4096 + v) 16 ++ bitsN t 16))) := by
    rw [← bits_tag p dn v hdn hv]
    simp [allBits]
  have hok : (partsT d s p dn v t).all okP = true := by
    simp only [List.all_cons, List.all_nil, Bool.and_true, Bool.and_eq_true, okP, decide_eq_true_eq]
    refine ⟨⟨by omega, by omega, ?_⟩, ⟨by omega, by omega, ?_⟩, ⟨by omega, by omega, ?_⟩, ⟨by omega, by omega, ?_⟩, ⟨by omega, by omega, ?_⟩, ⟨by omega, by omega, ?_⟩, ⟨by omega, by omega, ?_⟩⟩ <;> simp <;> omega
  have hl : (allBits (partsT d s p dn v t)).length = 144 := by rw [e]; simp [length_bitsN]
  have b16 : ∀ x, (bitsN x 16).length % 8 = 0 := fun x => by rw [length_bitsN]
  have b48 : ∀ x, (bitsN x 48).length % 8 = 0 := fun x => by rw [length_bitsN]
  have bb : ∀ {a b : List Nat}, Bin a → Bin b → Bin (a ++ b) := fun ha hb x hx => by rcases List.mem_append.1 hx with h | h; exact ha x h; exact hb x h
  have l8 : ∀ {a b : List Nat}, a.length % 8 = 0 → b.length % 8 = 0 → (a ++ b).length % 8 = 0 := fun ha hb => by rw [List.length_append]; omega
  have B := fun x n => bin_bitsN x n
  unfold packR
  rw [if_pos hok, if_pos (by rw [hl]), e]
  rw [bytesOf_append (B _ _) (bb (B _ _) (bb (B _ _) (bb (B _ _) (B _ _)))) (b48 _) (l8 (b48 _) (l8 (b16 _) (l8 (b16 _) (b16 _)))),
    bytesOf_append (B _ _) (bb (B _ _) (bb (B _ _) (B _ _))) (b48 _) (l8 (b16 _) (l8 (b16 _) (b16 _))),
    bytesOf_append (B _ _) (bb (B _ _) (B _ _)) (b16 _) (l8 (b16 _) (b16 _)), bytesOf_append (B _ _) (B _ _) (b16 _) (b16 _), mark_bytes]
  rfl
theorem length_head (d s n t : Nat) : (headBytes d s n t).length = 18 := by simp [headBytes, length_putB]
theorem frame_head (f : Fr) (hd : f.dst < 281474976710656) (hs : f.src < 281474976710656) : frameBytes f = headBytes f.dst f.src (tci f) f.type ++ f.body := by
  unfold frameBytes headBytes
  rw [bytesM_put hd, bytesM_put hs]
  simp
theorem app_list (l : List UInt8) (b : ByteArray) : (⟨l.toArray⟩ : ByteArray) ++ b = ⟨(l ++ b.data.toList).toArray⟩ := by
  apply ba_ext
  rw [list_app, data_list, data_list]
theorem wrongT_zero {f : Fr} (h : wrongT f = 0) : badAddr f = false ∧ badRange f = false ∧ 1536 ≤ f.type ∧ 18 + f.body.length ≤ 1600 := by
  have e := closeT_wrong f
  rw [if_pos h] at e
  have := closeT_zero e
  exact ⟨this.1, this.2.1, this.2.2.1, this.2.2.2.1⟩

theorem close_at {bs : List UInt8} {k : Nat} (d s p v t : Nat) (dr : Bool) (b : ByteArray) (w : World) (h : closeT (frT d s p dr v t b) = (bs, k)) (hs : s < 18446744073709551616) (hp8 : p < 256) (hv16 : v < 65536) (ht16 : t < 65536) (hb : b.size ≤ maxLen) :
    Calls Try.prog 7 #[frV d s p dr v t b] w fun e w' => e = .returned (.tuple #[.string ⟨bs.toArray⟩, .int .i64 (k : Int)]) ∧ Below w.heap.size w w' := by
  rw [closeT_wrong] at h
  by_cases hw : wrongT (frT d s p dr v t b) = 0
  · rw [if_pos hw] at h
    simp only [Prod.mk.injEq] at h
    obtain ⟨rfl, rfl⟩ := h
    obtain ⟨ha, hr, hty, hln⟩ := wrongT_zero hw
    obtain ⟨hd, hs', _⟩ := addr_parts ha
    obtain ⟨hp, hv1, hv2⟩ := range_parts hr
    simp only at hd hs' hp hv1 hv2 hln
    rw [size_list] at hln
    obtain ⟨dn, hdn⟩ : ∃ dn, (if dr = true then 1 else 0) = dn := ⟨_, rfl⟩
    have hdn2 : dn < 2 := by rw [← hdn]; split <;> omega
    have hpk := pack_frame d s p dn v t hd hs' hp hdn2 (by omega) ht16
    have hv : ∀ q ∈ partsT d s p dn v t, q.2 < 18446744073709551616 := by
      intro q hq
      simp only [List.mem_cons, List.not_mem_nil, or_false] at hq
      rcases hq with rfl | rfl | rfl | rfl | rfl | rfl | rfl <;> simp only <;> omega
    have := close_any d s p v t dn dr b _ w hs hb hdn hw hpk hv hp8 hv16 ht16 (by omega) (by rw [length_head]; omega)
    have e : frameBytes (frT d s p dr v t b) = headBytes d s (p * 8192 + dn * 4096 + v) t ++ b.data.toList := by
      rw [frame_head _ hd hs']
      have : tci (frT d s p dr v t b) = p * 8192 + dn * 4096 + v := by
        unfold tci
        simp only
        rw [← hdn]
        split <;> omega
      rw [this]
    rw [e, ← app_list]
    exact this
  · rw [if_neg hw] at h
    simp only [Prod.mk.injEq] at h
    obtain ⟨rfl, rfl⟩ := h
    exact close_no _ d s p v t dr b w hs hb rfl hw
end Go.Proofs.Ytomchhjemfldnaa.Tg
