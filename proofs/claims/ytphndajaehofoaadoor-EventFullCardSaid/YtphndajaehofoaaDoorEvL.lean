/-
  Event, plain: what is closed is opened as it was; what is opened is closed as it was.
-/
import Derived.Test.YtphndajaehofoaaDoorEvK
namespace Go.Proofs.YtphndajaehofoaaDoor.Ev
open Go.RowKit Go.Proofs.YtphndajaehofoaaDoor.Bt Go.Proofs.YtphndajaehofoaaDoor.Mm Go.Proofs.YtphndajaehofoaaDoor.Fl Go.Proofs.YtphndajaehofoaaDoor.Lw Go.Proofs.YtphndajaehofoaaDoor.Tg Go.Proofs.YtphndajaehofoaaDoor.Oa Go.Proofs.YtphndajaehofoaaDoor.Op
set_option linter.unusedVariables false
set_option linter.unusedSimpArgs false

theorem closeE_zero {l : List Ev} {b : List UInt8} (h : closeE l = (b, 0)) : faults l = 0 ∧ l.length ≤ 10000 ∧ b = l.flatMap bytesE := by
  unfold closeE at h
  by_cases h0 : faults l = 0
  · rw [if_pos h0] at h
    by_cases h1 : 10000 < l.length
    · rw [if_pos h1] at h; simp at h
    · rw [if_neg h1] at h
      simp only [Prod.mk.injEq, and_true] at h
      exact ⟨h0, by omega, h.symm⟩
  · rw [if_neg h0] at h
    simp only [Prod.mk.injEq] at h
    exact absurd h.2 h0
theorem byteAt_app (P Q : List UInt8) (j : Nat) : byteAt (P ++ Q) (P.length + j) = byteAt Q j := by
  unfold byteAt
  rw [List.getD_eq_getElem?_getD, List.getD_eq_getElem?_getD, List.getElem?_append_right (by omega), Nat.add_sub_cancel_left]
theorem head_at0 (k a b c n : Nat) (R : List UInt8) (hk : k < 256) (ha : a < 256) (hb : b < 256) (hc : c < 256) (hn : n < 65536) :
    byteAt (headE k a b c n ++ R) 0 = k ∧ byteAt (headE k a b c n ++ R) 1 = a ∧ byteAt (headE k a b c n ++ R) 2 = b ∧ byteAt (headE k a b c n ++ R) 3 = c ∧ byteAt (headE k a b c n ++ R) 4 * 256 + byteAt (headE k a b c n ++ R) 5 = n := by
  have h5 : n / 256 < 256 := by omega
  have h6 : n % 256 < 256 := by omega
  have e4 : byteAt (headE k a b c n ++ R) 4 = n / 256 := by simp [byteAt, headE, Nat.mod_eq_of_lt h5]
  have e5 : byteAt (headE k a b c n ++ R) 5 = n % 256 := by simp [byteAt, headE, Nat.mod_eq_of_lt h6]
  refine ⟨?_, ?_, ?_, ?_, by rw [e4, e5]; omega⟩ <;> simp [byteAt, headE, Nat.mod_eq_of_lt hk, Nat.mod_eq_of_lt ha, Nat.mod_eq_of_lt hb, Nat.mod_eq_of_lt hc]
theorem ev_there (P R : List UInt8) (q : Ev) (hq : okE q) (hf : faultE q = 0) :
    stepE ⟨(P ++ (bytesE q ++ R)).toArray⟩ P.length = 0 ∧ evAt ⟨(P ++ (bytesE q ++ R)).toArray⟩ P.length = q ∧ P.length + 6 + numE ⟨(P ++ (bytesE q ++ R)).toArray⟩ P.length = P.length + (bytesE q).length := by
  obtain ⟨k, a, b, c, u⟩ := q
  obtain ⟨o1, o2, o3, o4, o5⟩ := hq
  have hz := faultE_zero hf
  dsimp only at o1 o2 o3 o4 o5 hz
  have hu : u.data.toList.length = u.size := size_list u
  have hb : bytesE (k, a, b, c, u) = headE k a b c u.size ++ u.data.toList := rfl
  have hl6 : (headE k a b c u.size).length = 6 := rfl
  obtain ⟨s, hs⟩ : ∃ s : ByteArray, s = ⟨(P ++ (bytesE (k, a, b, c, u) ++ R)).toArray⟩ := ⟨_, rfl⟩
  rw [← hs]
  have hd : s.data.toList = P ++ (headE k a b c u.size ++ (u.data.toList ++ R)) := by rw [hs, hb]; simp
  have hsz : s.size = P.length + 6 + u.size + R.length := by
    rw [← size_list, hd]
    simp only [List.length_append, hl6, hu]
    omega
  obtain ⟨g0, g1, g2, g3, g4⟩ := head_at0 k a b c u.size (u.data.toList ++ R) o1 o2 o3 o4 (by omega)
  have at_ (j : Nat) : byE s (P.length + j) = byteAt (headE k a b c u.size ++ (u.data.toList ++ R)) j := by unfold byE; rw [hd, byteAt_app]
  have hn : numE s P.length = u.size := by unfold numE; rw [at_ 4, at_ 5]; exact g4
  have hx : s.extract (P.length + 6) (P.length + 6 + u.size) = u := by
    apply ba_ext
    rw [ByteArray.data_extract, Array.toList_extract, List.extract_eq_take_drop, hd, ← List.append_assoc, List.drop_left' (by rw [List.length_append, hl6]), List.take_left' (by rw [hu]; omega)]
  have hev : evAt s P.length = (k, a, b, c, u) := by
    unfold evAt
    rw [hn, hx, show byE s P.length = k from (at_ 0).trans g0, at_ 1, at_ 2, at_ 3, g1, g2, g3]
  refine ⟨?_, hev, by rw [hn, hb, List.length_append, hl6, hu]; omega⟩
  unfold stepE
  rw [if_neg (by omega), hn, if_neg (by omega), hev, hf]
theorem each_there : ∀ (suf pre : List Ev) (h : ∀ q ∈ suf, okE q ∧ faultE q = 0), eachE ⟨((pre ++ suf).flatMap bytesE).toArray⟩ (pre.flatMap bytesE).length = suf.map (fun q => (q, 0))
  | [], pre, _ => by
    rw [eachE_nil _ _ (by rw [List.append_nil]; show ¬ _ < (pre.flatMap bytesE).toArray.size; simp)]
    rfl
  | q :: suf, pre, h => by
    obtain ⟨hq, hf⟩ := h q (List.mem_cons_self ..)
    have hb : (pre ++ q :: suf).flatMap bytesE = pre.flatMap bytesE ++ (bytesE q ++ suf.flatMap bytesE) := by rw [List.flatMap_append, List.flatMap_cons]
    obtain ⟨h1, h2, h3⟩ := ev_there (pre.flatMap bytesE) (suf.flatMap bytesE) q hq hf
    rw [← hb] at h1 h2 h3
    have hl6 : 0 < (bytesE q).length := by unfold bytesE headE; simp
    have hlt : (pre.flatMap bytesE).length < (⟨((pre ++ q :: suf).flatMap bytesE).toArray⟩ : ByteArray).size := by
      show _ < ((pre ++ q :: suf).flatMap bytesE).toArray.size
      rw [hb]
      simp
      omega
    rw [eachE_good _ _ hlt h1, h2, h3]
    have ih := each_there suf (pre ++ [q]) (fun x hx => h x (List.mem_cons_of_mem _ hx))
    have e1 : (pre ++ [q]) ++ suf = pre ++ q :: suf := by simp
    have e2 : ((pre ++ [q]).flatMap bytesE).length = (pre.flatMap bytesE).length + (bytesE q).length := by simp
    rw [e1, e2] at ih
    rw [ih]
    rfl
theorem evs_back (l : List Ev) : evs (l.map (fun q => (q, 0))) = l := by
  induction l with
  | nil => rfl
  | cons q l ih => show q :: evs (l.map (fun q => (q, 0))) = q :: l; rw [ih]
/-- what is closed is opened as it was -/
theorem open_closed {l : List Ev} {b : List UInt8} (hok : ∀ q ∈ l, okE q) (h : closeE l = (b, 0)) : openE ⟨b.toArray⟩ = (l, 0) := by
  obtain ⟨h0, hl, rfl⟩ := closeE_zero h
  have he := each_there l [] (fun q hq => ⟨hok q hq, faults_zero h0 q hq⟩)
  rw [List.nil_append] at he
  unfold openE
  rw [show eachE ⟨(l.flatMap bytesE).toArray⟩ 0 = l.map (fun q => (q, 0)) from he]
  have := openL_app (l.map (fun q => (q, 0))) [] [] (by intro x hx; obtain ⟨q, _, rfl⟩ := List.mem_map.1 hx; rfl) (by simpa using hl)
  rw [List.append_nil] at this
  rw [this]
  show ([] ++ evs (l.map (fun q => (q, 0))), 0) = (l, 0)
  rw [evs_back, List.nil_append]
theorem faults_all {l : List Ev} (h : ∀ q ∈ l, faultE q = 0) : faults l = 0 := by
  induction l with
  | nil => rfl
  | cons x l ih =>
    unfold faults
    rw [if_pos (h x (List.mem_cons_self ..))]
    exact ih (fun q hq => h q (List.mem_cons_of_mem _ hq))
theorem byte_back (s : ByteArray) (i : Nat) (h : i < s.size) : UInt8.ofNat (byE s i) = s.data.toList[i]'(by rw [size_list]; exact h) := by
  rw [byE_get s i h, UInt8.ofNat_toNat]
  rfl
theorem drop_six (s : ByteArray) (i n : Nat) (h : i + 6 + n ≤ s.size) (hn : numE s i = n) : headE (byE s i) (byE s (i + 1)) (byE s (i + 2)) (byE s (i + 3)) n ++ ((s.extract (i + 6) (i + 6 + n)).data.toList ++ s.data.toList.drop (i + 6 + n)) = s.data.toList.drop i := by
  have hl := size_list s
  have b4 := byE_lt s (i + 4)
  have b5 := byE_lt s (i + 5)
  have e4 : n / 256 = byE s (i + 4) := by rw [← hn]; unfold numE; omega
  have e5 : n % 256 = byE s (i + 5) := by rw [← hn]; unfold numE; omega
  have hx : (s.extract (i + 6) (i + 6 + n)).data.toList ++ s.data.toList.drop (i + 6 + n) = s.data.toList.drop (i + 6) := by
    have hdd : s.data.toList.drop (i + 6 + n) = (s.data.toList.drop (i + 6)).drop n := by rw [List.drop_drop]
    rw [ByteArray.data_extract, Array.toList_extract, List.extract_eq_take_drop, show i + 6 + n - (i + 6) = n by omega, hdd, List.take_append_drop]
  rw [hx]
  unfold headE
  rw [e4, e5, byte_back s i (by omega), byte_back s (i + 1) (by omega), byte_back s (i + 2) (by omega), byte_back s (i + 3) (by omega), byte_back s (i + 4) (by omega), byte_back s (i + 5) (by omega)]
  rw [List.drop_eq_getElem_cons (show i < s.data.toList.length by omega), List.drop_eq_getElem_cons (show i + 1 < s.data.toList.length by omega), List.drop_eq_getElem_cons (show i + 1 + 1 < s.data.toList.length by omega), List.drop_eq_getElem_cons (show i + 1 + 1 + 1 < s.data.toList.length by omega), List.drop_eq_getElem_cons (show i + 1 + 1 + 1 + 1 < s.data.toList.length by omega), List.drop_eq_getElem_cons (show i + 1 + 1 + 1 + 1 + 1 < s.data.toList.length by omega)]
  rfl
theorem okE_at (s : ByteArray) (i : Nat) (hs : s.size ≤ maxLen) : okE (evAt s i) := ⟨byE_lt _ _, byE_lt _ _, byE_lt _ _, byE_lt _ _, by show (s.extract _ _).size ≤ _; rw [ByteArray.size_extract]; omega⟩
theorem close_opened_at (s : ByteArray) (hs : s.size ≤ maxLen) (L : List Ev) : ∀ (d i : Nat) (t : List Ev), s.size - i ≤ d → i ≤ s.size → t.length ≤ 10000 → openL (eachE s i) t = (L, 0) → ∃ M, L = t ++ M ∧ (∀ q ∈ M, okE q ∧ faultE q = 0) ∧ M.flatMap bytesE = s.data.toList.drop i := by
  intro d
  induction d with
  | zero =>
    intro i t hd hi ht h
    rw [eachE_nil s i (by omega)] at h
    simp only [openL, Prod.mk.injEq, and_true] at h
    exact ⟨[], by rw [List.append_nil]; exact h.symm, (fun q hq => by cases hq), (by rw [List.drop_eq_nil_of_le (by rw [size_list]; omega)]; rfl)⟩
  | succ d ih =>
    intro i t hd hi ht h
    by_cases hlt : i < s.size
    · by_cases hfull : t.length = 10000
      · rw [openL_stop s i t hlt hfull] at h
        simp at h
      · by_cases h0 : stepE s i = 0
        · have hfit := stepE_fits h0
          rw [openL_go s i t hlt hfull h0] at h
          obtain ⟨M, hL, hM, hB⟩ := ih (i + 6 + numE s i) (t ++ [evAt s i]) (by omega) (by omega) (by rw [List.length_append, List.length_singleton]; omega) h
          have hfl : faultE (evAt s i) = 0 := by
            unfold stepE at h0
            rw [if_neg (by omega), if_neg (by omega)] at h0
            exact h0
          refine ⟨evAt s i :: M, by rw [hL]; simp, fun q hq => ?_, ?_⟩
          · rcases List.mem_cons.1 hq with rfl | hq
            · exact ⟨okE_at s i hs, hfl⟩
            · exact hM q hq
          · rw [List.flatMap_cons, hB]
            have hsz : (s.extract (i + 6) (i + 6 + numE s i)).size = numE s i := by rw [ByteArray.size_extract]; omega
            have := drop_six s i (numE s i) hfit.1 rfl
            rw [← List.append_assoc] at this
            rw [← this]
            show (headE (byE s i) (byE s (i + 1)) (byE s (i + 2)) (byE s (i + 3)) (s.extract (i + 6) (i + 6 + numE s i)).size ++ (s.extract (i + 6) (i + 6 + numE s i)).data.toList) ++ _ = _
            rw [hsz]
        · rw [openL_wrong s i _ t hlt hfull rfl h0] at h
          simp only [Prod.mk.injEq] at h
          exact absurd h.2 h0
    · rw [eachE_nil s i hlt] at h
      simp only [openL, Prod.mk.injEq, and_true] at h
      exact ⟨[], by rw [List.append_nil]; exact h.symm, (fun q hq => by cases hq), (by rw [List.drop_eq_nil_of_le (by rw [size_list]; omega)]; rfl)⟩
/-- what is opened is closed as it was -/
theorem close_opened {s : ByteArray} {L : List Ev} (hs : s.size ≤ maxLen) (h : openE s = (L, 0)) : closeE L = (s.data.toList, 0) ∧ (∀ q ∈ L, okE q) := by
  obtain ⟨M, hL, hM, hB⟩ := close_opened_at s hs L s.size 0 [] (by omega) (Nat.zero_le _) (Nat.zero_le _) h
  rw [List.nil_append] at hL
  subst hL
  have hlen := openE_len h
  refine ⟨?_, fun q hq => (hM q hq).1⟩
  unfold closeE
  rw [if_pos (faults_all (fun q hq => (hM q hq).2)), if_neg (by omega), hB]
  rfl
theorem openL_none : ∀ (l : List (Ev × Nat)) (t L : List Ev) (c : Nat), openL l t = (L, c) → c ≠ 0 → L = []
  | [], t, L, c, h, h0 => by
    simp only [openL, Prod.mk.injEq] at h
    exact absurd h.2.symm h0
  | x :: r, t, L, c, h, h0 => by
    change (if t.length = 10000 then (([], 9) : List Ev × Nat) else if x.2 = 0 then openL r (t ++ [x.1]) else ([], x.2)) = (L, c) at h
    by_cases h1 : t.length = 10000
    · rw [if_pos h1] at h
      simp only [Prod.mk.injEq] at h
      exact h.1.symm
    · rw [if_neg h1] at h
      by_cases h2 : x.2 = 0
      · rw [if_pos h2] at h
        exact openL_none r _ L c h h0
      · rw [if_neg h2] at h
        simp only [Prod.mk.injEq] at h
        exact h.1.symm
end Go.Proofs.YtphndajaehofoaaDoor.Ev
