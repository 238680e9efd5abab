/-
  Contracts of oam's Close and of the document's: both answer closeO; the document's example.
-/
import Derived.Test.YtflofehnclaffaaOam4
namespace Go.Proofs.Ytflofehnclaffaa.Oa
open Go.RowKit Go.Proofs.Ytflofehnclaffaa.Bt Go.Proofs.Ytflofehnclaffaa.Mm Go.Proofs.Ytflofehnclaffaa.Fl Go.Proofs.Ytflofehnclaffaa.Lw Go.Proofs.Ytflofehnclaffaa.Tg

theorem app_end (l : List UInt8) (s : ByteArray) : ((⟨l.toArray⟩ : ByteArray) ++ s) ++ (⟨#[0]⟩ : ByteArray) = ⟨(l ++ (s.data.toList ++ [0])).toArray⟩ := by
  apply ba_ext
  simp
theorem close_at {bs : List UInt8} {k : Nat} (l v c f o : Nat) (s : ByteArray) (w : World) (h : closeO ⟨l, v, c, f, o⟩ s.data.toList = (bs, k)) (hc : c < 256) (hf : f < 256) (ho : o < 256) :
    Calls Try.prog 7 #[hdV l v c f o, .string s] w fun x w' => x = .returned (.tuple #[.string ⟨bs.toArray⟩, .int .i64 (k : Int)]) ∧ Below w.heap.size w w' := by
  have hsl := size_list s
  unfold closeO at h
  by_cases h1 : 7 < l
  · rw [if_pos (.inl h1)] at h
    simp only [Prod.mk.injEq] at h
    obtain ⟨rfl, rfl⟩ := h
    exact close_level l v c f o s w h1
  by_cases h2 : 31 < v
  · rw [if_pos (.inr h2)] at h
    simp only [Prod.mk.injEq] at h
    obtain ⟨rfl, rfl⟩ := h
    exact close_version l v c f o s w h1 h2
  rw [if_neg (by rintro (h | h); exact h1 h; exact h2 h), hsl] at h
  by_cases h3 : s.size = o
  · rw [if_neg (fun hn => hn h3)] at h
    simp only [Prod.mk.injEq] at h
    obtain ⟨rfl, rfl⟩ := h
    have hp := pack_head l v c f o (by omega) (by omega) hc hf ho
    have hv : ∀ q ∈ partsH l v c f o, q.2 < 18446744073709551616 := by
      intro q hq
      simp only [List.mem_cons, List.not_mem_nil, or_false] at hq
      rcases hq with rfl | rfl | rfl | rfl | rfl <;> simp only <;> omega
    have := close_ok l v c f o s _ w h1 h2 h3 hc hf ho hp hv (by simp [headB])
    rw [app_end] at this
    exact this
  · rw [if_pos h3] at h
    simp only [Prod.mk.injEq] at h
    obtain ⟨rfl, rfl⟩ := h
    exact close_form l v c f o s w h1 h2 h3 ho

set_option maxHeartbeats 1000000 in
theorem rclose_range (l v c f o : Nat) (s : ByteArray) (w : World) (h : 7 < l ∨ 31 < v) :
    Calls Try.prog 8 #[hdV l v c f o, .string s] w fun x w' => x = .returned (.tuple #[.string ⟨#[]⟩, .int .i64 4]) ∧ Below w.heap.size w w' := by
  have HB := Lib.hid ((Below.refl w.heap.size w).alloc (Nat.le_refl _) (.cells (hdC l v c f o) 30))
  by_cases h1 : 7 < l
  · have h1' : decide ((7 : Int) < (l : Int)) = true := gt_t (by omega)
    clear h h1
    go_enter Try.func8, Try.ntmps8
    go_wp2
    go_ret2
    exact ⟨rfl, HB.out⟩
  · have h1' : decide ((7 : Int) < (l : Int)) = false := gt_f (by omega)
    have h2' : decide ((31 : Int) < (v : Int)) = true := gt_t (by omega)
    clear h h1
    go_enter Try.func8, Try.ntmps8
    go_wp2
    go_ret2
    exact ⟨rfl, HB.out⟩
set_option maxHeartbeats 1000000 in
theorem rclose_form (l v c f o : Nat) (s : ByteArray) (w : World) (h : ¬ 7 < l) (h' : ¬ 31 < v) (hn : s.size ≠ o) (ho : o < 256) :
    Calls Try.prog 8 #[hdV l v c f o, .string s] w fun x w' => x = .returned (.tuple #[.string ⟨#[]⟩, .int .i64 3]) ∧ Below w.heap.size w w' := by
  have h1 : decide ((7 : Int) < (l : Int)) = false := gt_f (by omega)
  have h2 : decide ((31 : Int) < (v : Int)) = false := gt_f (by omega)
  have h3 := ne_t hn
  have q1 : IntKind.i64.wrap (o : Int) = (o : Int) := IntWalk.i64_in _ ⟨by omega, by omega⟩
  have HB := Lib.hid ((Below.refl w.heap.size w).alloc (Nat.le_refl _) (.cells (hdC l v c f o) 30))
  clear h h' hn
  go_enter Try.func8, Try.ntmps8
  go_wp2
  go_ret2
  exact ⟨rfl, HB.out⟩
theorem byte_of {x : Nat} (h : x < 256) : (UInt8.ofNat x).toNat = x := by simp; omega
set_option maxRecDepth 100000 in
set_option maxHeartbeats 1000000 in
theorem rclose_ok (l v c f o x y : Nat) (s : ByteArray) (w : World) (h : ¬ 7 < l) (h' : ¬ 31 < v) (hn : s.size = o) (hc : c < 256) (hf : f < 256) (ho : o < 256) (hx : l * 32 = x) (hy : x + v = y) (hb : List UInt8) (hhb : [UInt8.ofNat y, UInt8.ofNat c, UInt8.ofNat f, UInt8.ofNat o] = hb) :
    Calls Try.prog 8 #[hdV l v c f o, .string s] w fun x w' => x = .returned (.tuple #[.string ((⟨hb.toArray⟩ ++ s) ++ ⟨#[0]⟩), .int .i64 0]) ∧ Below w.heap.size w w' := by
  have h1 : decide ((7 : Int) < (l : Int)) = false := gt_f (by omega)
  have h2 : decide ((31 : Int) < (v : Int)) = false := gt_f (by omega)
  have h3 := ne_f hn
  have hs3 : s.size < 256 := by omega
  have q1 : IntKind.i64.wrap (o : Int) = (o : Int) := IntWalk.i64_in _ ⟨by omega, by omega⟩
  have hx' : (l : Int) * 32 = (x : Int) := by omega
  have hy' : (x : Int) + (v : Int) = (y : Int) := by omega
  have q2 : IntKind.u8.wrap (x : Int) = (x : Int) := IntWalk.u8_in _ ⟨by omega, by omega⟩
  have q3 : IntKind.u8.wrap (y : Int) = (y : Int) := IntWalk.u8_in _ ⟨by omega, by omega⟩
  have hcs : (#[.int .u8 (y : Int), .int .u8 (c : Int), .int .u8 (f : Int), .int .u8 (o : Int)] : Array Value).toList = byteVals hb := by
    rw [← hhb]
    simp only [byteVals, List.map, byte_of (show y < 256 by omega), byte_of hc, byte_of hf, byte_of ho]
  have hl4 : hb.length = 4 := by rw [← hhb]; rfl
  have HB := Lib.hid ((Below.refl w.heap.size w).alloc (Nat.le_refl _) (.cells (hdC l v c f o) 30))
  have hcv := back_new (P := Try.prog) (src := 44) (dst := 9) (e := 5) (w.alloc (.cells (hdC l v c f o) 30)) #[.int .u8 (y : Int), .int .u8 (c : Int), .int .u8 (f : Int), .int .u8 (o : Int)] hb 4 4 hcs hl4 Try.underlying44 Try.underlying5 Try.underlying9
  have e1 : (w.alloc (.cells (hdC l v c f o) 30)).heap.size = w.heap.size + 1 := by simp
  rw [e1] at hcv
  have hs2 : (⟨hb.toArray⟩ : ByteArray).size = 4 := by show hb.toArray.size = 4; simpa using hl4
  generalize (⟨hb.toArray⟩ : ByteArray) = bs at hcv hs2 ⊢
  have z1 : (⟨#[(0 : UInt8)]⟩ : ByteArray).size = 1 := rfl
  clear h h' hn hx hy hcs hl4 hhb hc hf ho e1
  go_enter Try.func8, Try.ntmps8
  go_wp2
  go_ret2
  exact ⟨rfl, HB.out.alloc HB.out.size _⟩
theorem rclose_at {bs : List UInt8} {k : Nat} (l v c f o : Nat) (s : ByteArray) (w : World) (h : closeO ⟨l, v, c, f, o⟩ s.data.toList = (bs, k)) (hc : c < 256) (hf : f < 256) (ho : o < 256) :
    Calls Try.prog 8 #[hdV l v c f o, .string s] w fun x w' => x = .returned (.tuple #[.string ⟨bs.toArray⟩, .int .i64 (k : Int)]) ∧ Below w.heap.size w w' := by
  have hsl := size_list s
  unfold closeO at h
  by_cases h1 : 7 < l ∨ 31 < v
  · rw [if_pos h1] at h
    simp only [Prod.mk.injEq] at h
    obtain ⟨rfl, rfl⟩ := h
    exact rclose_range l v c f o s w h1
  rw [if_neg h1, hsl] at h
  by_cases h3 : s.size = o
  · rw [if_neg (fun hn => hn h3)] at h
    simp only [Prod.mk.injEq] at h
    obtain ⟨rfl, rfl⟩ := h
    have := rclose_ok l v c f o _ _ s w (by omega) (by omega) h3 hc hf ho rfl rfl _ rfl
    rw [app_end] at this
    exact this
  · rw [if_pos h3] at h
    simp only [Prod.mk.injEq] at h
    obtain ⟨rfl, rfl⟩ := h
    exact rclose_form l v c f o s w (by omega) (by omega) h3 ho

theorem awake_closeO : closeO ⟨7, 1, 40, 0, 0⟩ (⟨#[]⟩ : ByteArray).data.toList = ([225, 40, 0, 0, 0], 0) := by decide +kernel
set_option maxRecDepth 100000 in
set_option maxHeartbeats 400000 in
theorem awake4 (w : World) : Calls Try.prog 6 #[] w fun e w' => e = .returned (.bool true) ∧ Below w.heap.size w w' := by
  go_enter Try.func6, Try.ntmps6
  go_wp2_with fail
  refine (close_at 7 1 40 0 0 ⟨#[]⟩ w awake_closeO (by omega) (by omega) (by omega)).mono ?_
  rintro e w1 ⟨rfl, hb1⟩
  have HB1 := Lib.hid hb1; clear hb1
  go_wp2_with fail
  refine (awake1 w1).mono ?_
  rintro e w2 ⟨rfl, hb2⟩
  have HB2 := Lib.hid (HB1.out.trans (hb2.mono HB1.out.size)); clear hb2
  go_wp2
  go_ret
  exact ⟨rfl, HB2.out⟩
end Go.Proofs.Ytflofehnclaffaa.Oa
