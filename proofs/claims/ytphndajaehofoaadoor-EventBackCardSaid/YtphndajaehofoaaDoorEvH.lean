/-
  Event: the iterator through the events of bytes, its contract (inside the wide fence).
-/
import Derived.Test.YtphndajaehofoaaDoorEvD
import Derived.RangeFuncNested
import Derived.RangeFuncBound
import Derived.RangeFuncCalls
import Derived.RangeFuncLeaves
import Derived.Shelf.Abstract
import Derived.Shelf.RegionOpen
import Derived.WalkKit
import Derived.OwnWalkIn
import Derived.TacticsInMore
import Derived.LoopNIn
import Derived.LoopIn
namespace Go.Proofs.YtphndajaehofoaaDoor.Ev
open Go.RowKit Go.Shelf Go.Proofs.YtphndajaehofoaaDoor.Bt Go.Proofs.YtphndajaehofoaaDoor.Mm Go.Proofs.YtphndajaehofoaaDoor.Fl Go.Proofs.YtphndajaehofoaaDoor.Lw Go.Proofs.YtphndajaehofoaaDoor.Tg Go.Proofs.YtphndajaehofoaaDoor.Oa Go.Proofs.YtphndajaehofoaaDoor.Op
set_option linter.unusedVariables false
set_option linter.unusedSimpArgs false
attribute [local go_sem] Oper.semAt_some

def strLen : Value → Nat
  | .string t => t.size
  | _ => 0
abbrev encX (x : Ev × Nat) : Array Value := #[evQ x.1, .int .i64 (x.2 : Int)]
theorem eachE_nil (s : ByteArray) (i : Nat) (h : ¬ i < s.size) : eachE s i = [] := by unfold eachE; rw [if_neg h]
theorem eachE_good (s : ByteArray) (i : Nat) (h : i < s.size) (h0 : stepE s i = 0) : eachE s i = (evAt s i, 0) :: eachE s (i + 6 + numE s i) := by rw [eachE.eq_1 s i, if_pos h, if_pos h0]
theorem eachE_bad (s : ByteArray) (i : Nat) (h : i < s.size) (h0 : stepE s i ≠ 0) : eachE s i = [(zeroE, stepE s i)] := by rw [eachE.eq_1 s i, if_pos h, if_neg h0]
set_option maxHeartbeats 1000000 in
theorem each_in (n : Nat) (s : ByteArray) (w : World) :
    CallsIn Fence.wide n Tryd.prog 22 #[.string s] w fun e w' => e = .returned (.func (.func 25) #[] #[.pointer (some ⟨w.heap.size, 0, none⟩)]) ∧ w' = w.alloc (.cells #[.string s] 9) := by
  refine callsIn_of_wp Tryd.func22 rfl trivial ?_ rfl
  simp only [Tryd.ntmps22, List.size_toArray, List.length_cons, List.length_nil, Nat.reduceAdd, Nat.reduceSub, Array.replicate_succ, Array.replicate_zero, List.push_toArray, List.append_toArray, List.nil_append, List.cons_append]
  gi_wp2
  go_ret
  exact ⟨rfl, rfl⟩
theorem abides_below {β : Type} {B : Nat} {J : β → World → Prop} (h : AbidesFrom B J) {s : β} {w w' : World} (hs : J s w) (hb : Below w.heap.size w w') : J s w' := h s w w' none hs (below_grow hb) (fun r e => by cases e)
set_option maxRecDepth 100000 in
set_option maxHeartbeats 2000000 in
theorem each1_in (n : Nat) (hn : 1 ≤ n) (l g : Nat) (s : ByteArray) (hsz : s.size ≤ maxLen) (J Jx : List (Ev × Nat) → World → Prop) (W : World) (hJ : AbidesFrom W.heap.size J)
    (hY : ∀ pre x W1, J pre W1 → pre.length < s.size + 1 → YieldAt Fence.wide (n - 1) Tryd.prog l (encX x) W1 fun e W' =>
      (e = .returned (.bool true) ∧ J (pre ++ [x]) W' ∧ True) ∨ (e = .returned (.bool false) ∧ Jx (pre ++ [x]) W'))
    (hg : W.cell? ⟨g, 0, none⟩ = some (.string s)) (h0 : J [] W) :
    CallsIn Fence.wide n Tryd.prog 25 #[.func (.yield l) #[] #[], .pointer (some ⟨g, 0, none⟩)] W fun e W' => (∃ v, e = .returned v) ∧
      ((∃ ys, ys = eachE s 0 ∧ J ys W') ∨ (∃ pre, pre <+: eachE s 0 ∧ Jx pre W')) := by
  refine callsIn_of_wp Tryd.func25 rfl trivial ?_ rfl
  simp only [Tryd.ntmps25, List.size_toArray, List.length_cons, List.length_nil, Nat.reduceAdd, Nat.reduceSub, Array.replicate_succ, Array.replicate_zero, List.push_toArray, List.append_toArray, List.nil_append, List.cons_append]
  gi_wp2
  gi_loopw [3] (fun p wr => ∃ (t : ByteArray) (pre rest : List (Ev × Nat)), p = .string t ∧ pre ++ rest = eachE s 0 ∧ J pre wr ∧ pre.length ≤ s.size - t.size ∧ t.size ≤ s.size ∧ ((t.size = 0 ∧ rest = []) ∨ (∃ i, i < s.size ∧ t = s.extract i s.size ∧ rest = eachE s i))) (fun p _ => strLen p)
  case atStart =>
    refine ⟨s, [], eachE s 0, rfl, rfl, h0, Nat.zero_le _, Nat.le_refl _, ?_⟩
    by_cases h : s.size = 0
    · exact .inl ⟨h, eachE_nil _ _ (by omega)⟩
    · exact .inr ⟨0, by omega, (by apply ba_ext; simp), rfl⟩
  case round =>
    obtain ⟨t, pre, rest, rfl, hx, hJs, hpl, hts, hr⟩ := hrel
    have HX := Lib.hid hx; clear hx
    rcases hr with ⟨ht, rfl⟩ | ⟨i, hi, ht, rfl⟩
    · have n0 : t.data.toList.isEmpty = true := by rw [List.isEmpty_iff_length_eq_zero, size_list]; exact ht
      have n1 : t.toList.isEmpty = true := by rw [Go.ByteArray.toList_eq]; exact n0
      gi_wp2
      go_end0
      exact ⟨⟨_, rfl⟩, .inl ⟨pre, by rw [← HX.out, List.append_nil], hJs⟩⟩
    · have hcs := size_cut s i
      rw [← ht] at hcs
      have n0 : t.data.toList.isEmpty = false := by
        cases he : t.data.toList with
        | nil => have := size_list t; rw [he] at this; simp at this; omega
        | cons a r => rfl
      have n1 : t.toList.isEmpty = false := by rw [Go.ByteArray.toList_eq]; exact n0
      by_cases h0 : stepE s i = 0
      · have hfit := stepE_fits h0
        rw [eachE_good s i hi h0] at HX
        have hc2 := size_cut s (i + 6 + numE s i)
        have hcall := fun w => first_good s i w hsz h0
        obtain ⟨q, hq⟩ : ∃ q, evAt s i = q := ⟨_, rfl⟩
        rw [hq] at HX
        simp only [hq, ← ht] at hcall
        obtain ⟨k, a, b, c, u⟩ := q
        obtain ⟨t2, ht2⟩ : ∃ t2, s.extract (i + 6 + numE s i) s.size = t2 := ⟨_, rfl⟩
        simp only [ht2] at hcall
        rw [ht2] at hc2
        have HDJ : Hid ((t2.size = 0 ∧ eachE s (i + 6 + numE s i) = []) ∨ (∃ j, j < s.size ∧ t2 = s.extract j s.size ∧ eachE s (i + 6 + numE s i) = eachE s j)) := Lib.hid (by
          by_cases hz : i + 6 + numE s i < s.size
          · exact .inr ⟨_, hz, ht2.symm, rfl⟩
          · exact .inl ⟨by omega, eachE_nil _ _ hz⟩)
        have HC := Lib.hid hcall
        have HQ := Lib.hid hq; have HT := Lib.hid ht; have HT2 := Lib.hid ht2
        clear hcall hq ht ht2
        gi_wp2_with fail
        refine ⟨trivial, (callsIn_wide.2 (HC.out wr)).mono ?_⟩
        rintro e w1 ⟨rfl, hb1⟩
        have hJ2 : J pre (w1.alloc (.cells (evC k a b c u) 28)) := abides_below hJ (abides_below hJ hJs hb1) ((Below.refl w1.heap.size w1).alloc (Nat.le_refl _) _)
        obtain ⟨fn, tmps, assign, body, hy, hR⟩ := hY pre ((k, a, b, c, u), 0) _ hJ2 (by omega)
        rw [show encX ((k, a, b, c, u), 0) = #[evV k a b c u, .int .i64 0] from rfl] at hy
        have HR := Lib.hid hR; clear hR hJ2 hJs hY
        gi_wp2
        refine HR.out.mono ?_
        rintro e W3 (⟨rfl, hJ3, _⟩ | ⟨rfl, hJx3⟩)
        · gi_wp2
          go_roundw
          case rel => exact ⟨t2, pre ++ [((k, a, b, c, u), 0)], eachE s (i + 6 + numE s i), rfl, by rw [List.append_assoc]; exact HX.out, hJ3, by simp; omega, by omega, HDJ.out⟩
          case measure => simp only [strLen]; omega
        · gi_wp2
          refine bodyPost_ret (results_none rfl _ _ _) rfl ?_
          exact ⟨⟨_, rfl⟩, .inr ⟨pre ++ [((k, a, b, c, u), 0)], ⟨eachE s (i + 6 + numE s i), by rw [List.append_assoc]; exact HX.out⟩, hJx3⟩⟩
      · have ez : (⟨#[]⟩ : ByteArray).size = 0 := rfl
        obtain ⟨f, hf⟩ : ∃ f, stepE s i = f := ⟨_, rfl⟩
        rw [eachE_bad s i hi h0, hf] at HX
        rw [hf] at h0
        have hcall := fun w => first_bad s i f w hsz hf h0
        simp only [← ht] at hcall
        have HC := Lib.hid hcall
        have HT := Lib.hid ht; have HF := Lib.hid hf
        clear hcall ht hf
        gi_wp2_with fail
        refine ⟨trivial, (callsIn_wide.2 (HC.out wr)).mono ?_⟩
        rintro e w1 ⟨rfl, hb1⟩
        have hJ2 : J pre (w1.alloc (.cells zeroC 28)) := abides_below hJ (abides_below hJ hJs hb1) ((Below.refl w1.heap.size w1).alloc (Nat.le_refl _) _)
        obtain ⟨fn, tmps, assign, body, hy, hR⟩ := hY pre (zeroE, f) _ hJ2 (by omega)
        rw [show encX (zeroE, f) = #[.agg zeroC, .int .i64 (f : Int)] from rfl] at hy
        have HR := Lib.hid hR; clear hR hJ2 hJs hY
        gi_wp2
        refine HR.out.mono ?_
        rintro e W3 (⟨rfl, hJ3, _⟩ | ⟨rfl, hJx3⟩)
        · gi_wp2
          go_roundw
          case rel => exact ⟨⟨#[]⟩, pre ++ [(zeroE, f)], [], rfl, by rw [List.append_assoc]; exact HX.out, hJ3, by simp; omega, by omega, .inl ⟨rfl, rfl⟩⟩
          case measure => simp only [strLen]; show (0 : Nat) < _; omega
        · gi_wp2
          refine bodyPost_ret (results_none rfl _ _ _) rfl ?_
          exact ⟨⟨_, rfl⟩, .inr ⟨pre ++ [(zeroE, f)], ⟨[], by rw [List.append_assoc]; exact HX.out⟩, hJx3⟩⟩
/-- it hands on the events of the bytes, all of them or, where a round has said so, the first of them -/
theorem each_stops (n : Nat) (hn : 1 ≤ n) (g : Nat) (s : ByteArray) (hsz : s.size ≤ maxLen) (w : World) (hgl : g < w.heap.size) (hg : w.cell? ⟨g, 0, none⟩ = some (.string s)) :
    SeqStopsK Fence.wide n Tryd.prog 25 #[.pointer (some ⟨g, 0, none⟩)] encX (fun _ _ => True) (fun ys => ys = eachE s 0) (fun pre => pre <+: eachE s 0) (s.size + 1) w :=
  fun l J Jx W hW hJ _ hY h0 => each1_in n hn l g s hsz J Jx W hJ hY ((hW.cell (p := ⟨g, 0, none⟩) hgl).trans hg) h0
end Go.Proofs.YtphndajaehofoaaDoor.Ev
