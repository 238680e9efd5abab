/-
  Event: first at a place of the bytes; Close.
-/
import Derived.Test.YtphndajaehofoaaDoorEvC
import Derived.Test.YtphndajaehofoaaDoorEvS
namespace Go.Proofs.YtphndajaehofoaaDoor.Ev
open Go.RowKit Go.Proofs.YtphndajaehofoaaDoor.Bt Go.Proofs.YtphndajaehofoaaDoor.Mm Go.Proofs.YtphndajaehofoaaDoor.Fl Go.Proofs.YtphndajaehofoaaDoor.Lw Go.Proofs.YtphndajaehofoaaDoor.Tg Go.Proofs.YtphndajaehofoaaDoor.Oa Go.Proofs.YtphndajaehofoaaDoor.Op
set_option linter.unusedVariables false
set_option linter.unusedSimpArgs false

theorem numE_cut (s : ByteArray) (i : Nat) (h : i + 6 ≤ s.size) : numE (s.extract i s.size) 0 = numE s i := by
  unfold numE
  rw [byE_cut s i 4 (by omega), byE_cut s i 5 (by omega)]
/-- the event that stands first from a place on -/
theorem first_good (s : ByteArray) (i : Nat) (w : World) (hs : s.size ≤ maxLen) (h : stepE s i = 0) :
    Calls Tryd.prog 26 #[.string (s.extract i s.size)] w fun e w' => e = .returned (.tuple #[evQ (evAt s i), .string (s.extract (i + 6 + numE s i) s.size), .int .i64 0]) ∧ Below w.heap.size w w' := by
  have hf := stepE_fits h
  have hsz := size_cut s i
  have hsp := split_ev (s.extract i s.size) (by omega)
  rw [byE_cut s i 0 (by omega), byE_cut s i 1 (by omega), byE_cut s i 2 (by omega), byE_cut s i 3 (by omega), numE_cut s i (by omega)] at hsp
  have hr : (s.extract i s.size).extract 6 (s.extract i s.size).size = s.extract (i + 6) s.size := by
    rw [hsz, cut_cut, show min (i + (s.size - i)) s.size = s.size by omega]
  rw [hr] at hsp
  have hrs := size_cut s (i + 6)
  have hfl : faultE (evAt s i) = 0 := by
    unfold stepE at h
    rw [if_neg (by omega), if_neg (by omega)] at h
    exact h
  refine first_ok _ _ _ _ _ _ _ _ _ w (by rw [hsz]; omega) (by rw [hrs]; omega) (byE_lt _ _) (byE_lt _ _) (byE_lt _ _) (byE_lt _ _) (numE_lt s i) hsp ?_ ?_ hfl
  · rw [cut_cut, Nat.add_zero]
    show s.extract (i + 6) (min (i + 6 + numE s i) s.size) = s.extract (i + 6) (i + 6 + numE s i)
    rw [show min (i + 6 + numE s i) s.size = i + 6 + numE s i by omega]
  · rw [hrs, cut_cut, show min (i + 6 + (s.size - (i + 6))) s.size = s.size by omega]
theorem first_bad (s : ByteArray) (i f : Nat) (w : World) (hs : s.size ≤ maxLen) (h : stepE s i = f) (h0 : f ≠ 0) :
    Calls Tryd.prog 26 #[.string (s.extract i s.size)] w fun e w' => e = .returned (.tuple #[.agg zeroC, .string ⟨#[]⟩, .int .i64 (f : Int)]) ∧ Below w.heap.size w w' := by
  have hsz := size_cut s i
  unfold stepE at h
  by_cases h1 : s.size - i < 6
  · rw [if_pos h1] at h
    subst h
    exact first_short _ w (by rw [hsz]; omega) (split_ev_short _ (by omega))
  rw [if_neg h1] at h
  have hsp := split_ev (s.extract i s.size) (by omega)
  rw [byE_cut s i 0 (by omega), byE_cut s i 1 (by omega), byE_cut s i 2 (by omega), byE_cut s i 3 (by omega), numE_cut s i (by omega)] at hsp
  have hr : (s.extract i s.size).extract 6 (s.extract i s.size).size = s.extract (i + 6) s.size := by
    rw [hsz, cut_cut, show min (i + (s.size - i)) s.size = s.size by omega]
  rw [hr] at hsp
  have hrs := size_cut s (i + 6)
  by_cases h2 : s.size - i - 6 < numE s i
  · rw [if_pos h2] at h
    subst h
    exact first_few _ _ _ _ _ _ _ w (by rw [hsz]; omega) (by rw [hrs]; omega) (numE_lt s i) hsp
  rw [if_neg h2] at h
  refine first_wrong _ _ _ _ _ _ _ _ _ w (by rw [hsz]; omega) (by rw [hrs]; omega) (byE_lt _ _) (byE_lt _ _) (byE_lt _ _) (byE_lt _ _) (numE_lt s i) hsp ?_ h h0
  rw [cut_cut, Nat.add_zero]
  show s.extract (i + 6) (min (i + 6 + numE s i) s.size) = s.extract (i + 6) (i + 6 + numE s i)
  rw [show min (i + 6 + numE s i) s.size = i + 6 + numE s i by omega]

/-- an event out of a slice -/
theorem rd_event {w : World} {B : Nat} {A : Option Addr} {l : List Ev} (h : Rd w B A (eventCells l)) {i : Nat} (hi : i < l.length) :
    ∃ ad : Addr, A = some ad ∧ ad.block < B ∧ w.cell? (ad.add (i * 5)) = some (.int .u8 (l[i].1 : Int)) ∧ w.cell? ⟨(ad.add (i * 5)).block, (ad.add (i * 5)).off + 1, none⟩ = some (.int .u8 (l[i].2.1 : Int)) ∧
      w.cell? ⟨(ad.add (i * 5)).block, (ad.add (i * 5)).off + 2, none⟩ = some (.int .u8 (l[i].2.2.1 : Int)) ∧ w.cell? ⟨(ad.add (i * 5)).block, (ad.add (i * 5)).off + 3, none⟩ = some (.int .u8 (l[i].2.2.2.1 : Int)) ∧
      w.cell? ⟨(ad.add (i * 5)).block, (ad.add (i * 5)).off + 4, none⟩ = some (.string l[i].2.2.2.2) := by
  obtain ⟨ad, e1, e2, e3⟩ := h (by rw [length_eventCells]; omega)
  obtain ⟨g0, g1, g2, g3, g4⟩ := get_eventCells l i hi
  have a2 : ad.add (i * 5 + 2) = ⟨(ad.add (i * 5)).block, (ad.add (i * 5)).off + 2, none⟩ := by rw [← add_add]; rfl
  have a3 : ad.add (i * 5 + 3) = ⟨(ad.add (i * 5)).block, (ad.add (i * 5)).off + 3, none⟩ := by rw [← add_add]; rfl
  have a4 : ad.add (i * 5 + 4) = ⟨(ad.add (i * 5)).block, (ad.add (i * 5)).off + 4, none⟩ := by rw [← add_add]; rfl
  refine ⟨ad, e1, e2, e3 _ _ g0, ?_, ?_, ?_, ?_⟩
  · rw [← add_succ]; exact e3 _ _ g1
  · rw [← a2]; exact e3 _ _ g2
  · rw [← a3]; exact e3 _ _ g3
  · rw [← a4]; exact e3 _ _ g4

theorem faults_drop (l : List Ev) (k : Nat) (h : k < l.length) : faults (l.drop k) = if faultE l[k] = 0 then faults (l.drop (k + 1)) else faultE l[k] := by
  rw [List.drop_eq_getElem_cons h]
  rfl
theorem take_bytes (l : List Ev) (k : Nat) (h : k < l.length) : (l.take (k + 1)).flatMap bytesE = (l.take k).flatMap bytesE ++ bytesE l[k] := by
  rw [List.take_succ_eq_append_getElem h, List.flatMap_append]
  simp
theorem take_bytes_le (l : List Ev) (k : Nat) : ((l.take k).flatMap bytesE).length ≤ (l.flatMap bytesE).length := by
  have e : (l.flatMap bytesE) = (l.take k).flatMap bytesE ++ (l.drop k).flatMap bytesE := by rw [← List.flatMap_append, List.take_append_drop]
  rw [e, List.length_append]
  omega
theorem faults_zero {l : List Ev} (h : faults l = 0) : ∀ q ∈ l, faultE q = 0 := by
  induction l with
  | nil => intro q hq; cases hq
  | cons x l ih =>
    unfold faults at h
    split at h
    · rename_i h0
      intro q hq
      rcases List.mem_cons.1 hq with rfl | hq
      · exact h0
      · exact ih h q hq
    · contradiction
theorem faultE_zero {q : Ev} (h : faultE q = 0) : q.1 ≤ 7 ∧ q.2.2.2.2.size ≤ 1600 := by
  unfold faultE at h
  split at h
  · simp at h
  · split at h
    · simp at h
    · omega

/-- a builder stays where memory is only made -/
theorem sb_keep {T e : TypeId} {B b : Nat} {bs : List Value} {w w' : World} (h : Lib.IsBuilderF T e B b bs w) (hb : Below w.heap.size w w') : Lib.IsBuilderF T e B b bs w' := by
  have one : ∀ p, Lib.BuilderAtF T e B b p bs w → Lib.BuilderAtF T e B b p bs w' := by
    intro p hp
    have hlt := hp.lt
    obtain ⟨hB, v, hbk, hown, hne⟩ := hp
    refine ⟨hB, v, (hb.block b hlt).trans hbk, hown.kept (below_grow hb) ?_, hne⟩
    cases v.ownBlock with
    | none => exact .inl rfl
    | some g => exact .inr (by simp)
  exact h.elim (fun x => .inl (one _ x)) (fun x => .inr (one _ x))
theorem sb_new (T e : TypeId) (w : World) : Lib.IsBuilderF T e w.heap.size w.heap.size [] (w.alloc (.cells #[.pointer none, .slice none 0 0] T)) :=
  .inl ⟨Nat.le_refl _, _, Blk.fresh w T _, Go.World.ownsRowF_nil _ _ _ _, by simp [Value.ownBlock]⟩
theorem sb_write (b : Nat) (bs : List UInt8) (s : ByteArray) (w : World) (h : Lib.IsBuilderF 51 5 b b (Lib.byteCells bs) w) (hlen : bs.length + s.size ≤ 140737488355328) :
    Calls Tryd.prog 18 #[.pointer (some ⟨b, 0, none⟩), .string s] w fun e w' => e = .returned (.tuple #[.int .i64 s.size, .nilIface]) ∧ Lib.IsBuilderF 51 5 b b (Lib.byteCells (bs ++ s.data.toList)) w' ∧ Below b w w' ∧ (∀ x t cs, t ≠ 5 → x ≠ b → Blk w x t cs → Blk w' x t cs) := by
  have hl : (Lib.byteCells bs).length = bs.length := by simp [Lib.byteCells]
  have hb : b ≤ w.heap.size := by rcases h with h | h <;> exact Nat.le_of_lt h.lt
  refine (Any.Builder_WriteString_k sbLays166 sbExtra166 b b (Lib.byteCells bs) s w h (by rw [hl]; exact hlen) hb).mono ?_
  rintro e w' ⟨rfl, h1, h2, h3⟩
  refine ⟨rfl, ?_, h2, fun x t cs ht hx hB => h3 x _ hB (by simpa using hx) (fun c fz he => by injection he with _ h5 _; exact ht h5)⟩
  have e1 : Lib.byteCells (bs ++ s.data.toList) = Lib.byteCells bs ++ Lib.strCells s := by simp [Lib.byteCells, Lib.strCells]
  rw [e1]
  exact .inr h1
theorem sb_string (b : Nat) (bs : List UInt8) (w : World) (h : Lib.IsBuilderF 51 5 b b (Lib.byteCells bs) w) :
    Calls Tryd.prog 20 #[.pointer (some ⟨b, 0, none⟩)] w fun e w' => e = .returned (.string ⟨bs.toArray⟩) ∧ Below b w w' := by
  have hb : b ≤ w.heap.size := by rcases h with h | h <;> exact Nat.le_of_lt h.lt
  refine (Any.Builder_String_any_k sbLays169 sbExtra169 b b bs w h hb).mono ?_
  rintro e w' ⟨rfl, _, h2, _⟩
  exact ⟨rfl, h2⟩
/-- an event made and written: the world named -/
theorem ev_new (w : World) (t : TypeId) (k a b c : Nat) (s : ByteArray) : ∃ w2 : World, w2 = w.alloc (.cells (evC k a b c s) t) ∧ Blk w2 w.heap.size t (evC k a b c s) ∧ Below w.heap.size w w2 := ⟨_, rfl, Blk.fresh _ _ _, (Below.refl w.heap.size w).alloc (Nat.le_refl _) _⟩
end Go.Proofs.YtphndajaehofoaaDoor.Ev
