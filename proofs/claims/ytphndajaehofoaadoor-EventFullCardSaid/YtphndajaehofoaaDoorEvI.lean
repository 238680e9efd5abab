/-
  Event: Open: a range over the iterator.
-/
import Derived.Test.YtphndajaehofoaaDoorEvH
import Derived.Test.YtphndajaehofoaaDoorEvF
import Derived.Maps.AppendAt
namespace Go.Proofs.YtphndajaehofoaaDoor.Ev
open Go.RowKit Go.Shelf Go.Proofs.YtphndajaehofoaaDoor.Bt Go.Proofs.YtphndajaehofoaaDoor.Mm Go.Proofs.YtphndajaehofoaaDoor.Fl Go.Proofs.YtphndajaehofoaaDoor.Lw Go.Proofs.YtphndajaehofoaaDoor.Tg Go.Proofs.YtphndajaehofoaaDoor.Oa Go.Proofs.YtphndajaehofoaaDoor.Op
set_option linter.unusedVariables false
set_option linter.unusedSimpArgs false
attribute [local go_sem] Oper.semAt_some

abbrev evs (l : List (Ev × Nat)) : List Ev := l.map (·.1)
theorem openL_app : ∀ (pre : List (Ev × Nat)) (t : List Ev) (rest : List (Ev × Nat)), (∀ x ∈ pre, x.2 = 0) → t.length + pre.length ≤ 10000 → openL (pre ++ rest) t = openL rest (t ++ evs pre)
  | [], t, rest, _, _ => by simp
  | x :: pre, t, rest, h, hl => by
    have h1 : x.2 = 0 := h x (List.mem_cons_self ..)
    rw [List.length_cons] at hl
    show (if t.length = 10000 then _ else if x.2 = 0 then openL (pre ++ rest) (t ++ [x.1]) else _) = _
    rw [if_neg (by omega), if_pos h1, openL_app pre (t ++ [x.1]) rest (fun y hy => h y (List.mem_cons_of_mem _ hy)) (by simp; omega)]
    simp
theorem openL_full (pre : List (Ev × Nat)) (x : Ev × Nat) (rest : List (Ev × Nat)) (h : ∀ y ∈ pre, y.2 = 0) (hl : pre.length = 10000) : openL (pre ++ [x] ++ rest) [] = ([], 9) := by
  rw [List.append_assoc, openL_app pre [] _ h (by simp; omega)]
  show (if ([] ++ evs pre).length = 10000 then _ else _) = _
  rw [if_pos (by simp; omega)]
theorem openL_bad (pre : List (Ev × Nat)) (x : Ev × Nat) (rest : List (Ev × Nat)) (h : ∀ y ∈ pre, y.2 = 0) (hl : pre.length < 10000) (hx : x.2 ≠ 0) : openL (pre ++ [x] ++ rest) [] = ([], x.2) := by
  rw [List.append_assoc, openL_app pre [] _ h (by simp; omega)]
  show (if ([] ++ evs pre).length = 10000 then _ else if x.2 = 0 then _ else _) = _
  rw [if_neg (by simp; omega), if_neg hx]
theorem info_ev3 : (Tryd.prog.info? 28).map (fun i => (i.zero, i.size, i.bytes)) = some (some (.agg zeroC), 5, 24) := by kernel_rfl

/-- between two rounds; where a round has left; what the assignment of the loop's variables leaves -/
def OI (w : World) (g0 g1 g2 : Nat) (pre : List (Ev × Nat)) (W : World) : Prop :=
  ((∃ v, Boxed W g2 22 v ∧ W.ownsRow w.heap.size 28 5 v pre.length (eventCells (evs pre)) ∧ True) ∧ (Boxed W g0 22 (.slice none 0 0) ∧ Boxed W g1 32 (.int .i64 0))) ∧ (((∀ x ∈ pre, x.2 = 0) ∧ pre.length ≤ 10000) ∧ Below w.heap.size w W)
def OX (w : World) (g0 g1 : Nat) (cd : Code) (ys : List (Ev × Nat)) (W : World) : Prop :=
  (∃ c : Nat, (cd = .ret ∧ ∀ rest, openL (ys ++ rest) [] = ([], c)) ∧ (Boxed W g0 22 (.slice none 0 0) ∧ Boxed W g1 32 (.int .i64 (c : Int)))) ∧ Below w.heap.size w W
def OA (s : ByteArray) (g0 g1 g2 g3 : Nat) (x : Ev × Nat) (a' : Act) (W : World) : Prop :=
  ∃ Bx, Blk W Bx 28 (evC x.1.1 x.1.2.1 x.1.2.2.1 x.1.2.2.2.1 x.1.2.2.2.2) ∧ a' = { tmps := #[.string s, undef, .pointer (some ⟨g0, 0, none⟩), .pointer (some ⟨g1, 0, none⟩), .pointer (some ⟨g2, 0, none⟩), .pointer (some ⟨Bx, 0, none⟩), .int .i64 (x.2 : Int), .string s, .func (.func 25) #[] #[.pointer (some ⟨g3, 0, none⟩)], evQ x.1, .int .i64 (x.2 : Int), undef, undef, undef, undef, undef, undef, undef, undef, undef, undef, undef], defers := [] }
theorem oi_own (w : World) (g0 g1 g2 B : Nat) (hB : w.heap.size ≤ B) : OwnFrom B (OI w g0 g1 g2) :=
  OwnFrom.and (OwnFrom.and (Own.from (holdsRow_own w.heap.size g2 22 28 5 (fun pre => pre.length) (fun pre => eventCells (evs pre)) (fun _ _ => True)) _) (OwnFrom.and (Own.from (boxed_own _ _ _) _) (Own.from (boxed_own _ _ _) _))) (OwnFrom.and (ownFrom_pure _ _) (ownFrom_below (Nat.le_refl _) hB))
theorem ox_own (w : World) (g0 g1 B : Nat) (cd : Code) (hB : w.heap.size ≤ B) : OwnFrom B (OX w g0 g1 cd) :=
  OwnFrom.and (fun s A C row hs hg hr => by
    obtain ⟨c, hp, hb0, hb1⟩ := hs
    exact ⟨c, hp, Own.from (boxed_own g0 22 (fun (_ : Unit) => .slice none 0 0)) B () A C row hb0 hg hr, Own.from (boxed_own g1 32 (fun (_ : Unit) => .int .i64 (c : Int))) B () A C row hb1 hg hr⟩) (ownFrom_below (Nat.le_refl _) hB)
theorem blk_keptC {W W' : World} {B : Nat} {t : TypeId} {cs : Array Value} {row : Option Nat} (h : Blk W B t cs) (hg : W.grownBy W' row) (hr : ∀ r, row = some r → ∃ o : Obj, W.heap[r]? = some o ∧ o.isCells = false) : Blk W' B t cs :=
  h.grown hg (fun e => by
    obtain ⟨o, ho, hc⟩ := hr B e.symm
    rw [show W.heap[B]? = _ from h] at ho
    cases ho
    cases hc)
theorem oa_own (s : ByteArray) (g0 g1 g2 g3 B : Nat) (x : Ev × Nat) (a' : Act) : OwnFrom B (fun (_ : Unit) W => OA s g0 g1 g2 g3 x a' W) := fun _ X Y row hs hg hr => by
  obtain ⟨Bx, h2, h3⟩ := hs
  exact ⟨Bx, blk_keptC h2 hg (fun r e => (hr r e).2), h3⟩
theorem evs_snoc (pre : List (Ev × Nat)) (x : Ev × Nat) : eventCells (evs (pre ++ [x])) = eventCells (evs pre) ++ evL x.1 := by simp [eventCells]

set_option maxRecDepth 100000 in
set_option maxHeartbeats 2000000 in
theorem open_in {L : List Ev} {c : Nat} (n : Nat) (hn : 6 ≤ n) (s : ByteArray) (w : World) (h : openE s = (L, c)) (hs : s.size ≤ maxLen) :
    CallsIn Fence.wide n Tryd.prog 14 #[.string s] w fun e w' => ∃ A cp, e = .returned (.tuple #[.slice A L.length cp, .int .i64 (c : Int)]) ∧ Rd w' w'.heap.size A (eventCells L) ∧ Below w.heap.size w w' := by
  have h1 : 1 ≤ n := by omega
  obtain ⟨i0, hi, hz0, hz1, hz2⟩ := info_parts info_ev3
  have HI := Lib.hid hi; clear hi
  have H := Lib.hid h; clear h
  refine callsIn_of_wp_marks Tryd.func14 rfl trivial ?_ rfl
  simp only [Tryd.ntmps14, List.size_toArray, List.length_cons, List.length_nil, Nat.reduceAdd, Nat.reduceSub, Array.replicate_succ, Array.replicate_zero, List.push_toArray, List.append_toArray, List.nil_append, List.cons_append]
  gi_wp2_with (refine ⟨trivial, ?_⟩; gi_at_call 22; refine (each_in (n - 1) s _).mono ?_; rintro e w' ⟨rfl, rfl⟩)
  have bS := Boxed.new (((w.alloc (.cells #[.slice none 0 0] 22)).alloc (.cells #[.int .i64 0] 32)).alloc (.cells #[.slice none 0 0] 22)) 9 (.string s)
  have bL := (Boxed.new ((w.alloc (.cells #[.slice none 0 0] 22)).alloc (.cells #[.int .i64 0] 32)) 22 (.slice none 0 0)).alloc (.cells #[.string s] 9)
  have bC := ((Boxed.new (w.alloc (.cells #[.slice none 0 0] 22)) 32 (.int .i64 0)).alloc (.cells #[.slice none 0 0] 22)).alloc (.cells #[.string s] 9)
  have bR := (((Boxed.new w 22 (.slice none 0 0)).alloc (.cells #[.int .i64 0] 32)).alloc (.cells #[.slice none 0 0] 22)).alloc (.cells #[.string s] 9)
  simp only [World.size_alloc] at bS bL bC bR
  have hB0 : Below w.heap.size w ((((w.alloc (.cells #[.slice none 0 0] 22)).alloc (.cells #[.int .i64 0] 32)).alloc (.cells #[.slice none 0 0] 22)).alloc (.cells #[.string s] 9)) := ((((Below.refl _ w).alloc (Nat.le_refl _) _).alloc (by simp) _).alloc (by simp; omega) _).alloc (by simp; omega) _
  have hsz : ((((w.alloc (.cells #[.slice none 0 0] 22)).alloc (.cells #[.int .i64 0] 32)).alloc (.cells #[.slice none 0 0] 22)).alloc (.cells #[.string s] 9)).heap.size = w.heap.size + 4 := by simp
  obtain ⟨W0, hW0⟩ : ∃ W0, (((w.alloc (.cells #[.slice none 0 0] 22)).alloc (.cells #[.int .i64 0] 32)).alloc (.cells #[.slice none 0 0] 22)).alloc (.cells #[.string s] 9) = W0 := ⟨_, rfl⟩
  rw [hW0] at bS bL bC bR hB0 hsz ⊢
  clear hW0
  obtain ⟨g3, hg3⟩ : ∃ g, w.heap.size + 1 + 1 + 1 = g := ⟨_, rfl⟩
  rw [hg3] at bS ⊢
  obtain ⟨g2, hg2⟩ : ∃ g, w.heap.size + 1 + 1 = g := ⟨_, rfl⟩
  rw [hg2] at bL ⊢
  obtain ⟨g1, hg1⟩ : ∃ g, w.heap.size + 1 = g := ⟨_, rfl⟩
  rw [hg1] at bC ⊢
  obtain ⟨g0, hg0⟩ : ∃ g, w.heap.size = g := ⟨_, rfl⟩
  have bR' : Boxed W0 g0 22 (.slice none 0 0) := by rw [← hg0]; exact bR
  rw [show (Value.pointer (some ⟨w.heap.size, 0, none⟩)) = .pointer (some ⟨g0, 0, none⟩) by rw [hg0]]
  refine wpIn_rangeFunc_ownH rfl h1 (gf := 25) (lb := #[.pointer (some ⟨g3, 0, none⟩)]) rfl trivial (enters_of Tryd.func25 (by kernel_rfl) rfl)
    (each_stops (n - 1) (by omega) g3 s hs W0 (by omega) bS.cell) (fun _ _ => trivial) (fun _ _ _ _ _ _ _ _ => trivial) (Below.refl _ _) (fun _ => rfl)
    (OI w g0 g1 g2) (OX w g0 g1) (oi_own w g0 g1 g2 _ (by omega)) (fun cd => ox_own w g0 g1 _ cd (by omega))
    ⟨⟨⟨_, bL, World.ownsRow_nil _ _ _ _, trivial⟩, bR', bC⟩, ⟨fun x hx => (by cases hx), Nat.zero_le _⟩, hB0⟩
    (OA s g0 g1 g2 g3) (oa_own s g0 g1 g2 g3 _) ?assign ?body ?done ?stop
  case assign =>
    rintro l pre ⟨⟨k, a, b, c', u⟩, f⟩ W K hI hK
    obtain ⟨⟨⟨v, bL1, hrow, _⟩, bR1, bC1⟩, hp, hB1⟩ := hI
    have hb := (Below.refl W.heap.size W).alloc (Nat.le_refl _) (.cells (evC k a b c' u) 28)
    have hle := hB1.size
    have hlt := bL1.lt
    gi_wp2
    exact hK _ _ ((KeepsOthers.alloc _ _).from _) trivial ⟨⟨⟨v, bL1.alloc _, hrow.alloc _, trivial⟩, bR1.alloc _, bC1.alloc _⟩, hp, hB1.alloc hB1.size _⟩ ⟨W.heap.size, Blk.fresh W 28 _, rfl⟩
  case body =>
    rintro l pre ⟨⟨k, a, b, c', u⟩, f⟩ a' W hl ⟨r, hr⟩ hI hA hlt
    obtain ⟨⟨⟨v, bL1, hrow, _⟩, bR1, bC1⟩, ⟨hok, hlen⟩, hB1⟩ := hI
    obtain ⟨Bx, bX, rfl⟩ := hA
    dsimp only at bX ⊢
    obtain ⟨A, cp, rfl⟩ := own_slice hrow
    obtain ⟨m, hm⟩ : ∃ m, pre.length = m := ⟨_, rfl⟩
    rw [hm] at hrow hlen bL1
    have HOK := Lib.hid hok; have HM := Lib.hid hm
    clear hok hm hlt
    have cL := bL1.cell
    have fL := bL1.frozen
    have cR := bR1.cell
    have fR := bR1.frozen
    have cC := bC1.cell
    have fC := bC1.frozen
    by_cases hfull : m = 10000
    · have d1 : ((m : Int) == 10000) = true := by simp; omega
      have HF := Lib.hid (HM.out.trans hfull)
      clear hfull
      gi_wp2
      exact ⟨((KeepsOthers.setCell _ _ _).trans (KeepsOthers.setCell _ _ _)).from _, ⟨9, ⟨rfl, fun rest => openL_full pre _ rest HOK.out HF.out⟩, (bR1.set _).other (by omega) _, (bC1.other (by omega) _).set _⟩, (hB1.setCell (p := ⟨g0, 0, none⟩) (by simp; omega) _).setCell (p := ⟨g1, 0, none⟩) (by simp; omega) _⟩
    · have d1 : ((m : Int) == 10000) = false := by simp; omega
      by_cases hf : f = 0
      · have d2 : ((f : Int) != 0) = false := by simp; omega
        have HF0 := Lib.hid hf
        have hm2 : m + 1 ≤ 10000 := by omega
        clear hf hfull
        obtain ⟨x0, x1, x2, x3, x4, _⟩ := Rw5.row bX
        gi_wp2_with (gi_at_builtin; refine wpListIn_append_own _ rfl _ _ 22 rfl w.heap.size 28 i0 (.agg zeroC) 5 24 Tryd.underlying22 HI.out hz0 hz1 hz2 rfl (by decide) _ _ _ rfl (hrow.alloc _) ⟨W.heap.size, 0, none⟩ 1 1 (evL (k, a, b, c', u)) rfl rfl (World.news_of_block (Blk.fresh W 28 (evC k a b c' u))) (by intro z hz; simp at hz; rcases hz with rfl | rfl | rfl | rfl | rfl <;> rfl) (by unfold maxLen; omega) (by omega) (by have := hB1.size; simp; omega) ?_; intro v' w1 hown' hgrow _; obtain ⟨g', cap', rfl⟩ := ownsRow_succ hown'; obtain ⟨hv1, hv2, hr2, hk2, hb2⟩ := bL1.appended (by decide) hrow hB1.size (by omega) hown' hgrow; have hc1 := hv1.cell; have hf1 := hv1.frozen)
        have bR2 := ((bR1.alloc (.cells (evC k a b c' u) 28)).kept hgrow (bR1.not_row (by decide) hrow)).other (B' := g2) (by omega) (.slice (some ⟨g', 0, none⟩) (m + 1) cap')
        have bC2 := ((bC1.alloc (.cells (evC k a b c' u) 28)).kept hgrow (bC1.not_row (by decide) hrow)).other (B' := g2) (by omega) (.slice (some ⟨g', 0, none⟩) (m + 1) cap')
        refine ⟨hk2.from _, trivial, ⟨⟨_, hv2, ?_, trivial⟩, bR2, bC2⟩, ⟨fun y hy => ?_, ?_⟩, hB1.trans hb2⟩
        · rw [evs_snoc, List.length_append, HM.out]
          exact hr2
        · rcases List.mem_append.1 hy with hy | hy
          · exact HOK.out y hy
          · rw [List.mem_singleton] at hy
            rw [hy]
            exact HF0.out
        · rw [List.length_append, HM.out]
          exact hm2
      · have d2 : ((f : Int) != 0) = true := by simp; omega
        have HF0 := Lib.hid hf
        have HFU := Lib.hid (show pre.length < 10000 by have := HM.out; omega)
        clear hf hfull
        gi_wp2
        exact ⟨((KeepsOthers.setCell _ _ _).trans (KeepsOthers.setCell _ _ _)).from _, ⟨f, ⟨rfl, fun rest => openL_bad pre _ rest HOK.out HFU.out HF0.out⟩, (bR1.set _).other (by omega) _, (bC1.other (by omega) _).set _⟩, (hB1.setCell (p := ⟨g0, 0, none⟩) (by simp; omega) _).setCell (p := ⟨g1, 0, none⟩) (by simp; omega) _⟩
  case done =>
    rintro D ys W hD rfl hI hK
    obtain ⟨⟨⟨v, bL1, hrow, _⟩, bR1, bC1⟩, ⟨hok, hlen⟩, hB1⟩ := hI
    have hop := openL_app (eachE s 0) [] [] hok (by simpa using hlen)
    rw [List.append_nil, List.nil_append] at hop
    have hLc : L = evs (eachE s 0) ∧ c = 0 := by
      have := H.out
      unfold openE at this
      rw [hop] at this
      simp only [openL, Prod.mk.injEq] at this
      exact ⟨this.1.symm, this.2.symm⟩
    obtain ⟨hL, rfl⟩ := hLc
    rw [show (eachE s 0).length = L.length by rw [hL]; simp, ← hL] at hrow
    clear hok hlen hop hL H
    obtain ⟨A, cp, rfl⟩ := own_slice hrow
    have cL := bL1.cell
    have fL := bL1.frozen
    have cR := bR1.cell
    have fR := bR1.frozen
    have cC := bC1.cell
    have fC := bC1.frozen
    obtain ⟨m, hm⟩ : ∃ m, L.length = m := ⟨_, rfl⟩
    rw [hm] at hrow bL1 cL
    gi_wp2
    have hK' := ((KeepsOthers.setCell W ⟨g0, 0, none⟩ (.slice A m cp)).trans (KeepsOthers.setCell _ ⟨g1, 0, none⟩ (.int .i64 0))).same D _ hK rfl
    refine ⟨by simp, .inl ⟨_, _, rfl, run_takeDeferred hK', ?_⟩⟩
    have q0 := (bR1.set (.slice A m cp)).other (B' := g1) (by omega) (.int .i64 0)
    have q1 := (bC1.other (B' := g0) (by omega) (.slice A m cp)).set (.int .i64 0)
    have k0 := cell_kept q0.cell (grownBy_putObj' _ D (.deferred none)) (fun r e => by cases e; exact ⟨_, hK', rfl⟩)
    have k1 := cell_kept q1.cell (grownBy_putObj' _ D (.deferred none)) (fun r e => by cases e; exact ⟨_, hK', rfl⟩)
    have r1 := hrow.kept (grownBy_setCell' W g0 (.slice A m cp)) (.inr (bR1.not_row (by decide) hrow).symm)
    have bC1' := bC1.other (B' := g0) (by omega) (.slice A m cp)
    have r2 := r1.kept (grownBy_setCell' _ g1 (.int .i64 0)) (.inr (bC1'.not_row (by decide) r1).symm)
    have r3 := ownsRow_putObj r2 (.deferred none) hK' rfl
    refine ⟨.tuple #[.slice A m cp, .int .i64 0], ?_, A, cp, by rw [hm]; rfl, Rd.of_own r3, ((hB1.setCell (p := ⟨g0, 0, none⟩) (by simp; omega) _).setCell (p := ⟨g1, 0, none⟩) (by simp; omega) _).trans (belowK_b (w := w) (Nat.le_refl _) _ D _ _ (by omega) hK' rfl rfl)⟩
    simp [results, Tryd.f14, go_sem, k0, k1]
  case stop =>
    rintro D cd pre W hD hpre ⟨⟨f, ⟨rfl, hc⟩, bR1, bC1⟩, hB1⟩ hK
    obtain ⟨rest, hrest⟩ := hpre
    have hop := hc rest
    rw [hrest] at hop
    have hLc : L = [] ∧ c = f := by
      have := H.out
      unfold openE at this
      rw [hop] at this
      simp only [Prod.mk.injEq] at this
      exact ⟨this.1.symm, this.2.symm⟩
    obtain ⟨rfl, rfl⟩ := hLc
    gi_wp2
    refine ⟨by simp, .inl ⟨_, _, rfl, run_takeDeferred hK, ?_⟩⟩
    have k0 := cell_kept bR1.cell (grownBy_putObj' _ D (.deferred none)) (fun r e => by cases e; exact ⟨_, hK, rfl⟩)
    have k1 := cell_kept bC1.cell (grownBy_putObj' _ D (.deferred none)) (fun r e => by cases e; exact ⟨_, hK, rfl⟩)
    refine ⟨.tuple #[.slice none 0 0, .int .i64 (c : Int)], ?_, none, 0, rfl, Rd.none _ _ _, hB1.trans (belowK_b (w := w) (Nat.le_refl _) W D _ _ (by omega) hK rfl rfl)⟩
    simp [results, Tryd.f14, go_sem, k0, k1]
/-- Open, as any call -/
theorem open_at {L : List Ev} {c : Nat} (s : ByteArray) (w : World) (h : openE s = (L, c)) (hs : s.size ≤ maxLen) :
    Calls Tryd.prog 14 #[.string s] w fun e w' => ∃ A cp, e = .returned (.tuple #[.slice A L.length cp, .int .i64 (c : Int)]) ∧ Rd w' w'.heap.size A (eventCells L) ∧ Below w.heap.size w w' :=
  callsIn_wide.1 (open_in 6 (Nat.le_refl _) s w h hs)
end Go.Proofs.YtphndajaehofoaaDoor.Ev
