/-
  Event: Close.
-/
import Derived.Test.YtphndajaehofoaaDoorEvD
namespace Go.Proofs.YtphndajaehofoaaDoor.Ev
open Go.RowKit Go.Proofs.YtphndajaehofoaaDoor.Bt Go.Proofs.YtphndajaehofoaaDoor.Mm Go.Proofs.YtphndajaehofoaaDoor.Fl Go.Proofs.YtphndajaehofoaaDoor.Lw Go.Proofs.YtphndajaehofoaaDoor.Tg Go.Proofs.YtphndajaehofoaaDoor.Oa Go.Proofs.YtphndajaehofoaaDoor.Op
set_option linter.unusedVariables false
set_option linter.unusedSimpArgs false

theorem bytes_le {l : List Ev} (h : ∀ q ∈ l, faultE q = 0) : (l.flatMap bytesE).length ≤ 1606 * l.length := by
  induction l with
  | nil => simp
  | cons x l ih =>
    have h1 := (faultE_zero (h x (List.mem_cons_self ..))).2
    have h2 := ih (fun q hq => h q (List.mem_cons_of_mem _ hq))
    have h3 : (bytesE x).length = 6 + x.2.2.2.2.size := by unfold bytesE headE; rw [List.length_append, size_list]; rfl
    rw [List.flatMap_cons, List.length_append, List.length_cons]
    omega
set_option maxRecDepth 100000 in
set_option maxHeartbeats 1000000 in
theorem close_at {bs : List UInt8} {n : Nat} (l : List Ev) (A : Option Addr) (cp : Nat) (w : World) (h : closeE l = (bs, n)) (hA : Rd w w.heap.size A (eventCells l)) (hok : ∀ q ∈ l, okE q) (hm : l.length ≤ maxLen) :
    Calls Tryd.prog 10 #[.slice A l.length cp] w fun e w' => e = .returned (.tuple #[.string ⟨bs.toArray⟩, .int .i64 (n : Int)]) ∧ Below w.heap.size w w' := by
  unfold maxLen at hm
  have HA := Lib.hid hA; clear hA
  have HO := Lib.hid hok; clear hok
  have H1 : Hid (∀ f, faults l = f → f ≠ 0 → bs = [] ∧ n = f) := Lib.hid (by
    intro f hf h0
    unfold closeE at h
    rw [if_neg (by omega)] at h
    simp only [Prod.mk.injEq] at h
    exact ⟨h.1.symm, by omega⟩)
  have H2 : Hid (faults l = 0 → 10000 < l.length → bs = [] ∧ n = 9) := Lib.hid (by
    intro hf h0
    unfold closeE at h
    rw [if_pos hf, if_pos h0] at h
    simp only [Prod.mk.injEq] at h
    exact ⟨h.1.symm, h.2.symm⟩)
  have H3 : Hid (faults l = 0 → ¬ 10000 < l.length → bs = l.flatMap bytesE ∧ n = 0) := Lib.hid (by
    intro hf h0
    unfold closeE at h
    rw [if_pos hf, if_neg h0] at h
    simp only [Prod.mk.injEq] at h
    exact ⟨h.1.symm, h.2.symm⟩)
  clear h
  go_enter Tryd.func10, Tryd.ntmps10
  go_wp2
  go_loopw [12] (fun i wr => ∃ k : Nat, k ≤ l.length ∧ i = .int .i64 k ∧ faults l = faults (l.drop k) ∧ Below w.heap.size w wr) (fun i _ => l.length - (intOf i).toNat)
  case atStart => exact ⟨0, Nat.zero_le _, rfl, rfl, Below.refl _ _⟩
  case round =>
    obtain ⟨k, hk, rfl, hf, hb⟩ := hrel
    have HB := Lib.hid hb; clear hb
    have HF := Lib.hid hf; clear hf
    by_cases hlt : k < l.length
    · have hi2 : 0 ≤ (k : Int) ∧ (k : Int) < (l.length : Int) := by omega
      obtain ⟨ad, hAd, hbl, e0, e1, e2, e3, e4⟩ := rd_event (HA.out.below HB.out) hlt
      subst hAd
      have hF2 := faults_drop l k hlt
      obtain ⟨q, hq⟩ : ∃ q, q = l[k] := ⟨_, rfl⟩
      rw [← hq] at e0 e1 e2 e3 e4 hF2
      clear hq
      obtain ⟨kd, a, b, c, s⟩ := q
      dsimp only at e0 e1 e2 e3 e4
      obtain ⟨f, hfe⟩ : ∃ f, faultE (kd, a, b, c, s) = f := ⟨_, rfl⟩
      rw [hfe] at hF2
      have HFE := Lib.hid hfe; have HF2 := Lib.hid hF2
      clear hfe hF2
      go_upto_region 4 with (fail)
      have HX := Lib.hid (Blk.fresh wr 28 (evC kd a b c s))
      have HB2 := Lib.hid (HB.out.alloc HB.out.size (.cells (evC kd a b c s) 28))
      generalize wr.alloc (.cells (evC kd a b c s) 28) = w2 at HX HB2 ⊢
      clear e0 e1 e2 e3 e4
      cases Rw5.row HX.out
      go_wp2_with fail
      refine (fault_at kd a b c s _ HFE.out).mono ?_
      rintro e w3 ⟨rfl, hb3⟩
      have HB3 := Lib.hid (HB2.out.trans (hb3.mono HB2.out.size))
      clear hb3
      by_cases h0 : f = 0
      · subst h0
        go_wp2
        go_roundw
        case rel => exact ⟨k + 1, by omega, by go_num, HF.out.trans (by rw [HF2.out]; simp), HB3.out⟩
        case measure => simp [intOf]; omega
      · have q0 : ((f : Int) != 0) = true := by simp; omega
        obtain ⟨rfl, rfl⟩ := H1.out f (HF.out.trans (HF2.out.trans (if_neg h0))) h0
        clear h0
        go_wp2
        go_ret2
        exact ⟨rfl, HB3.out⟩
    · have hz : faults l = 0 := by rw [HF.out, List.drop_eq_nil_of_le (by omega)]; rfl
      have HZ := Lib.hid hz
      clear hz
      by_cases hbig : 10000 < l.length
      · obtain ⟨rfl, rfl⟩ := H2.out HZ.out hbig
        have hd : decide ((10000 : Int) < (l.length : Int)) = true := by simp; omega
        go_wp2
        go_ret2
        exact ⟨rfl, HB.out⟩
      · obtain ⟨hbs, rfl⟩ := H3.out HZ.out hbig
        have hd : decide ((10000 : Int) < (l.length : Int)) = false := by simp; omega
        have ht := bytes_le (faults_zero HZ.out)
        have HT : Hid ((l.flatMap bytesE).length ≤ 16060000) := Lib.hid (by omega)
        have HBS := Lib.hid hbs
        clear ht hbs H1 H2 H3 HF
        go_upto_region 11 with (fail)
        obtain ⟨g, hg⟩ : ∃ g, g = wr.heap.size := ⟨_, rfl⟩
        have HS := Lib.hid (sb_new 51 5 wr)
        have HB1 := Lib.hid (HB.out.alloc HB.out.size (.cells #[.pointer none, .slice none 0 0] 51))
        have hgw : w.heap.size ≤ g := by rw [hg]; exact HB.out.size
        generalize wr.alloc (.cells #[.pointer none, .slice none 0 0] 51) = w1 at HS HB1 ⊢
        rw [← hg] at HS ⊢
        clear hg
        go_wp2_with fail
        go_loopw [27] (fun i wx => ∃ j : Nat, j ≤ l.length ∧ i = .int .i64 j ∧ Lib.IsBuilderF 51 5 g g (Lib.byteCells ((l.take j).flatMap bytesE)) wx ∧ Below w.heap.size w wx) (fun i _ => l.length - (intOf i).toNat)
        case atStart => exact ⟨0, Nat.zero_le _, rfl, by simpa [Lib.byteCells] using HS.out, HB1.out⟩
        case round =>
          obtain ⟨j, hj, rfl, hs, hb⟩ := hrel
          clear HS HB1 HB
          have HS := Lib.hid hs; have HB := Lib.hid hb
          clear hs hb
          by_cases hlt2 : j < l.length
          · have hi2 : 0 ≤ (j : Int) ∧ (j : Int) < (l.length : Int) := by omega
            obtain ⟨ad, hAd, hbl, e0, e1, e2, e3, e4⟩ := rd_event (HA.out.below HB.out) hlt2
            subst hAd
            have hT2 := take_bytes l j hlt2
            have hT3 := take_bytes_le l (j + 1)
            have hz := faultE_zero (faults_zero HZ.out _ (List.getElem_mem hlt2))
            have ho := HO.out _ (List.getElem_mem hlt2)
            obtain ⟨q, hq⟩ : ∃ q, q = l[j] := ⟨_, rfl⟩
            rw [← hq] at e0 e1 e2 e3 e4 hT2 hz ho
            clear hq
            obtain ⟨kd, a, b, c, s⟩ := q
            obtain ⟨pre, hpre⟩ : ∃ pre, (l.take j).flatMap bytesE = pre := ⟨_, rfl⟩
            obtain ⟨hd', hhd⟩ : ∃ x, headE kd a b c s.size = x := ⟨_, rfl⟩
            obtain ⟨o1, o2, o3, o4, o5⟩ := ho
            dsimp only at e0 e1 e2 e3 e4 hz o1 o2 o3 o4 o5
            have hpk := pack_ev kd a b c s.size o1 o2 o3 o4 (by omega)
            have hl6 : hd'.length = 6 := by rw [← hhd]; rfl
            have hby : bytesE (kd, a, b, c, s) = hd' ++ s.data.toList := by rw [← hhd]; rfl
            rw [hhd] at hpk
            rw [hpre, hby] at hT2
            have hlen : pre.length + 6 + s.size ≤ 16060000 := by
              have := HT.out
              have h5 := congrArg List.length hT2
              rw [List.length_append, List.length_append, size_list, hl6] at h5
              omega
            rw [hpre] at HS
            have HPK := Lib.hid hpk; have HT2 := Lib.hid hT2; have HP6 := Lib.hid hl6
            clear hpk hT2 hT3 hpre hhd hby hl6 o5
            go_upto_region 14 with (fail)
            have HX := Lib.hid (Blk.fresh wr 28 (evC kd a b c s))
            have HB2 := Lib.hid (HB.out.alloc HB.out.size (.cells (evC kd a b c s) 28))
            have HS2 := Lib.hid (sb_keep HS.out ((Below.refl wr.heap.size wr).alloc (Nat.le_refl _) (.cells (evC kd a b c s) 28)))
            have hgx : g < wr.heap.size := by rcases HS.out with h | h <;> exact h.lt
            generalize wr.alloc (.cells (evC kd a b c s) 28) = w2 at HX HB2 HS2 ⊢
            generalize wr.heap.size = x at HX hgx ⊢
            clear e0 e1 e2 e3 e4 HS HB
            obtain ⟨c0, c1, c2, c3, c4, z0, z1, z2, z3, z4⟩ := Rw5.row HX.out
            go_wp2_with fail
            refine (head_at kd a b c s.size [] hd' s _ o1 o2 o3 o4 rfl (by omega) HPK.out).mono ?_
            rintro e w3 ⟨rfl, hb3⟩
            have HX3 := Lib.hid (HX.out.below hb3 HX.out.lt)
            have HB3 := Lib.hid (HB2.out.trans (hb3.mono HB2.out.size))
            have HS3 := Lib.hid (sb_keep HS2.out hb3)
            clear c0 c1 c2 c3 c4 z0 z1 z2 z3 z4 HX HB2 HS2 hb3
            go_wp2_with fail
            refine (sb_write g pre ⟨hd'.toArray⟩ w3 HS3.out (by have := HP6.out; show _ + hd'.toArray.size ≤ _; simp; omega)).mono ?_
            rintro e w4 ⟨rfl, hs4, hb4, hk4⟩
            have HX4 := Lib.hid (hk4 x _ _ (by decide) (by omega) HX3.out)
            have HB4 := Lib.hid (HB3.out.trans (hb4.mono hgw))
            have HS4 := Lib.hid hs4
            clear hs4 hb4 hk4 HX3 HB3 HS3
            cases Rw5.row HX4.out
            go_wp2_with fail
            refine (sb_write g (pre ++ hd') s w4 (by simpa using HS4.out) (by have := HP6.out; rw [List.length_append]; omega)).mono ?_
            rintro e w5 ⟨rfl, hs5, hb5, _⟩
            have HB5 := Lib.hid (HB4.out.trans (hb5.mono hgw))
            have HS5 := Lib.hid hs5
            clear hs5 hb5
            go_wp2
            go_roundw
            case rel => exact ⟨j + 1, by omega, by go_num, by rw [HT2.out, ← List.append_assoc]; exact HS5.out, HB5.out⟩
            case measure => simp [intOf]; omega
          · have hjl : j = l.length := by omega
            rw [hjl, List.take_length] at HS
            rw [← HBS.out] at HS
            go_wp2_with fail
            refine (sb_string g bs _ HS.out).mono ?_
            rintro e w2 ⟨rfl, hb2⟩
            have HB2 := Lib.hid (HB.out.trans (hb2.mono hgw))
            go_wp2
            go_ret2
            exact ⟨rfl, HB2.out⟩
end Go.Proofs.YtphndajaehofoaaDoor.Ev
