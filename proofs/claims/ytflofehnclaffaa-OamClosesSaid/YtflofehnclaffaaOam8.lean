/-
  Contract of oam's Open: where nothing is wrong; and its answer is openO's.
-/
import Derived.Test.YtflofehnclaffaaOam7
namespace Go.Proofs.Ytflofehnclaffaa.Oa
open Go.RowKit Go.Proofs.Ytflofehnclaffaa.Bt Go.Proofs.Ytflofehnclaffaa.Mm Go.Proofs.Ytflofehnclaffaa.Fl Go.Proofs.Ytflofehnclaffaa.Lw Go.Proofs.Ytflofehnclaffaa.Tg

set_option maxRecDepth 100000 in
set_option maxHeartbeats 1000000 in
theorem open_ok (s r t : ByteArray) (l v c f o : Nat) (w : World) (hs : s.size ≤ maxLen) (hr2 : o < r.size) (hl : l < 256) (hv : v < 256) (hc : c < 256) (hf : f < 256) (ho : o < 256) (hsp : splitR s widthsH = ([l, v, c, f, o], r, 0)) (hb0 : (r[o]'hr2).toNat = 0) (ht : r.extract 0 o = t) :
    Calls Try.prog 9 #[.string s] w fun e w' => e = .returned (.tuple #[hdV l v c f o, .string t, .int .i64 0]) ∧ Below w.heap.size w w' := by
  have HS := Lib.hid hsp; clear hsp
  have q1 : IntKind.i64.wrap (o : Int) = (o : Int) := IntWalk.i64_in _ ⟨by omega, by omega⟩
  have q2 : decide ((r.size : Int) ≤ (o : Int)) = false := by simp; omega
  go_enter Try.func9, Try.ntmps9
  go_wp2_with fail
  refine (split_blk s widthsH _ _ 5 _ _ _ _ (fresh_second _ _ _ _) rfl HS.out rfl rfl hs (by simp)).mono ?_
  rintro e w1 ⟨A', c', rfl, hr, hb⟩
  have hbk := ((Blk.fresh w 23 zeroHC).alloc _).below hb (by simp; omega)
  have HB := Lib.hid ((((Below.refl w.heap.size w).alloc (Nat.le_refl _) _).alloc (by simp) _).trans (hb.mono (by simp; omega)))
  obtain ⟨c0, c1, c2, c3, c4, z0, z1, z2, z3, z4⟩ := Rw5.row hbk
  have HK := Lib.hid hbk
  obtain ⟨ad, rfl, _, hcell⟩ := hr (by simp [nums])
  have e0 := hcell 0 _ rfl
  have e1 := hcell 1 _ rfl
  have e2 := hcell 2 _ rfl
  have e3 := hcell 3 _ rfl
  have e4 := hcell 4 _ rfl
  simp [Addr.add] at e0 e1 e2 e3 e4
  clear hb hbk hr hcell
  unfold maxLen at hs
  go_wp2_with fail
  have w0 : IntKind.u8.wrap (l : Int) = (l : Int) := IntWalk.u8_in _ ⟨by omega, by omega⟩
  have w1' : IntKind.u8.wrap (v : Int) = (v : Int) := IntWalk.u8_in _ ⟨by omega, by omega⟩
  have w2 : IntKind.u8.wrap (c : Int) = (c : Int) := IntWalk.u8_in _ ⟨by omega, by omega⟩
  have w3 : IntKind.u8.wrap (f : Int) = (f : Int) := IntWalk.u8_in _ ⟨by omega, by omega⟩
  have w4 : IntKind.u8.wrap (o : Int) = (o : Int) := IntWalk.u8_in _ ⟨by omega, by omega⟩
  have hlo : w.heap.size < w1.heap.size := HK.out.lt
  go_region_held3 (fun w' => w'.cell? ad = some (.int .u64 (l : Int)) ∧ w'.cell? ⟨ad.block, ad.off + 1, none⟩ = some (.int .u64 (v : Int)) ∧ w'.cell? ⟨ad.block, ad.off + 2, none⟩ = some (.int .u64 (c : Int)) ∧ w'.cell? ⟨ad.block, ad.off + 3, none⟩ = some (.int .u64 (f : Int)) ∧ w'.cell? ⟨ad.block, ad.off + 4, none⟩ = some (.int .u64 (o : Int))) (first | exact ⟨e0, e1, e2, e3, e4⟩ | go_keep)
    (first | fail)
  rename_i hHeld
  clear hHeld
  have HX := Lib.hid (Blk.fresh w1 23 (hdC l v c f o)).drew
  have HK2 := Lib.hid (HK.out.alloc (.cells (hdC l v c f o) 23)).drew
  have HB2 := Lib.hid (HB.out.alloc HB.out.size (.cells (hdC l v c f o) 23)).drew
  clear c0 c1 c2 c3 c4 z0 z1 z2 z3 z4 e0 e1 e2 e3 e4 w0 w1' w2 w3 w4
  generalize (w1.alloc (.cells (hdC l v c f o) 23)).drew = wB at *
  obtain ⟨i0, i1, i2, i3, i4, _⟩ := Rw5.row HX.out
  obtain ⟨c0, c1, c2, c3, c4, z0, z1, z2, z3, z4⟩ := Rw5.row HK2.out
  have b1 : (0 : Int) ≤ (o : Int) := by omega
  have b2 : (o : Int) ≤ (r.size : Int) := by omega
  go_wp2_with fail
  go_region
  go_wp2
  (try simp only [Exit.inBlock, Exit.then]); refine bodyPost_ret (results_row3 rfl _ _ w.heap.size 23 _ (0, 0) _ rfl (Rw5.blk_set HK2.out _ _ _ _ _).drew Try.underlying23 rfl info_head) rfl ?_
  exact ⟨rfl, (Rw5.below_set HB2.out (Nat.le_refl _) _ _ _ _ _).drew⟩

theorem byte_lt (s : List UInt8) (i : Nat) : byteAt s i < 256 := UInt8.toNat_lt _
theorem head_small (s : List UInt8) : Small (headOf s) := ⟨by have := byte_lt s 0; show byteAt s 0 / 32 < 256; omega, by have := byte_lt s 0; show byteAt s 0 % 32 < 256; omega, byte_lt s 1, byte_lt s 2, byte_lt s 3⟩
/-- a byte behind the head -/
theorem byte_rest (s : ByteArray) (i : Nat) (h : i < (s.extract 4 s.size).size) : ((s.extract 4 s.size)[i]'h).toNat = byteAt s.data.toList (4 + i) := by
  have e : (s.extract 4 s.size).data.toList[i]? = s.data.toList[4 + i]? := by rw [extract_list, List.getElem?_drop]
  have e2 : ((s.extract 4 s.size)[i]'h) = (s.extract 4 s.size).data.toList[i]'(by rw [size_list]; exact h) := rfl
  unfold byteAt
  rw [e2, List.getD_eq_getElem?_getD, ← e, List.getElem?_eq_getElem (by rw [size_list]; exact h)]
  rfl
/-- a head as a value -/
abbrev valH (h : Hd) : Value := hdV h.level h.version h.code h.flags h.offset
theorem open_at {h : Hd} {c : List UInt8} {k : Nat} (s : ByteArray) (w : World) (ho : openO s.data.toList = (h, c, k)) (hs : s.size ≤ maxLen) :
    Calls Try.prog 9 #[.string s] w fun e w' => e = .returned (.tuple #[valH h, .string ⟨c.toArray⟩, .int .i64 (k : Int)]) ∧ Below w.heap.size w w' := by
  have hsl := size_list s
  unfold openO at ho
  rw [hsl] at ho
  by_cases h1 : s.size < 4
  · rw [if_pos (.inl h1)] at ho
    simp only [Prod.mk.injEq] at ho
    obtain ⟨rfl, rfl, rfl⟩ := ho
    exact open_short s w hs (split_head_short s h1)
  have hsp := split_head s (by omega)
  obtain ⟨b0, b1, b2, b3, b4⟩ := head_small s.data.toList
  have hrs : (s.extract 4 s.size).size = s.size - 4 := by simp
  have hoff : (headOf s.data.toList).offset = byteAt s.data.toList 3 := rfl
  by_cases h2 : s.size < 5 + byteAt s.data.toList 3
  · rw [if_pos (.inr h2)] at ho
    simp only [Prod.mk.injEq] at ho
    obtain ⟨rfl, rfl, rfl⟩ := ho
    exact open_few s _ _ _ _ _ _ w hs (by omega) b4 hsp
  rw [if_neg (by omega)] at ho
  have hlt : (headOf s.data.toList).offset < (s.extract 4 s.size).size := by omega
  have hby := byte_rest s _ hlt
  by_cases h3 : byteAt s.data.toList (4 + byteAt s.data.toList 3) = 0
  · rw [if_neg (fun hn => hn h3)] at ho
    simp only [Prod.mk.injEq] at ho
    obtain ⟨rfl, rfl, rfl⟩ := ho
    refine open_ok s _ _ _ _ _ _ _ w hs hlt b0 b1 b2 b3 b4 hsp (hby.trans h3) ?_
    apply ba_ext
    rw [ByteArray.data_extract, Array.toList_extract, List.extract_eq_take_drop, extract_list]
    simp [hoff]
  · rw [if_pos h3] at ho
    simp only [Prod.mk.injEq] at ho
    obtain ⟨rfl, rfl, rfl⟩ := ho
    exact open_end s _ _ _ _ _ _ w hs hlt b4 hsp _ hby h3
end Go.Proofs.Ytflofehnclaffaa.Oa
