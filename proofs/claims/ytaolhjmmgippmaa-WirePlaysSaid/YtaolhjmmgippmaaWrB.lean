/-
  Wires: Push and Pop, the program's and the document's.
-/
import Derived.Test.YtaolhjmmgippmaaWrA
namespace Go.Proofs.Ytaolhjmmgippmaa.Wr
open Go.RowKit Go.Proofs.Ytaolhjmmgippmaa.Mm Go.Proofs.Ytaolhjmmgippmaa.Tg
set_option linter.unusedVariables false
set_option linter.unusedSimpArgs false

theorem blk_ne {w : World} {a b : Nat} {t t' : TypeId} {cs cs' : Array Value} (h : Blk w a t cs) (h' : Blk w b t' cs') (ht : t ≠ t') : a ≠ b := by
  rintro rfl
  unfold Blk at h h'
  rw [h] at h'
  injection h' with h'
  injection h' with _ e
  exact ht e
/-- texts don't lie in a wire's block -/
theorem wire_text {w : World} {g : Nat} {t : TypeId} {r : Int} {u : Bool} {A0 : Option Addr} {n0 c0 : Nat} {ad : Addr} {s : ByteArray} (hb : Blk w g t (wrC r u A0 n0 c0)) (hg : ad.block = g) (hc : w.cell? ad = some (.string s)) : False := by
  unfold World.cell? at hc
  rw [hg] at hc
  unfold Blk at hb
  rw [hb] at hc
  cases ad with
  | mk b of fld =>
    match of, hc with
    | 0, hc => simp at hc
    | 1, hc => simp at hc
    | 2, hc => simp at hc
    | _ + 3, hc => simp at hc
theorem Sl.ne {w : World} {A : Option Addr} {n c : Nat} {L : List ByteArray} (h : Sl w A n c L) {g : Nat} {t : TypeId} {r : Int} {u : Bool} {A0 : Option Addr} {n0 c0 : Nat} (hb : Blk w g t (wrC r u A0 n0 c0)) (hl : 0 < L.length) : ∃ ad : Addr, A = some ad ∧ ad.block ≠ g := by
  obtain ⟨ad, e1, e2, e3⟩ := h.rd (by rw [length_strs]; exact hl)
  refine ⟨ad, e1, fun hg => ?_⟩
  have hc := e3 0 _ (get_strs L 0 hl)
  have h0 : ad.add 0 = ad := by unfold Addr.add; simp
  rw [h0] at hc
  exact wire_text hb hg hc
theorem Sl.keep {w w' : World} {A : Option Addr} {n c : Nat} {L : List ByteArray} (h : Sl w A n c L) (hs : w.heap.size ≤ w'.heap.size) (hk : 0 < L.length → ∃ ad : Addr, A = some ad ∧ ∀ p : Addr, p.block = ad.block → w'.cell? p = w.cell? p) : Sl w' A n c L := by
  refine ⟨fun hn => ?_, h.len, h.cap, h.max, h.nil⟩
  obtain ⟨ad, e1, e2, e3⟩ := h.rd hn
  obtain ⟨ad', e, hc⟩ := hk (by rwa [length_strs] at hn)
  rw [e1] at e
  injection e with e
  subst e
  exact ⟨ad, e1, by omega, fun j v hv => (hc _ (by rw [block_add])).trans (e3 j v hv)⟩
theorem cell_set {w : World} {g k : Nat} {u : Value} {p : Addr} (h : p.block ≠ g) : (w.setCell ⟨g, k, none⟩ u).cell? p = w.cell? p := World.cell?_of_block (Below.heap_setCell w ⟨g, k, none⟩ u p.block h)
theorem size_set (w : World) (p : Addr) (u : Value) : (w.setCell p u).heap.size = w.heap.size := by simp [World.setCell]
/-- three cells of a wire written: texts stay -/
theorem Sl.set3 {w : World} {A : Option Addr} {n c : Nat} {L : List ByteArray} (h : Sl w A n c L) {g : Nat} {t : TypeId} {r : Int} {u : Bool} {A0 : Option Addr} {n0 c0 : Nat} (hb : Blk w g t (wrC r u A0 n0 c0)) (x0 x1 x2 : Value) : Sl (Rw3.set w g x0 x1 x2) A n c L :=
  h.keep (by simp only [Rw3.set, size_set]; exact Nat.le_refl _) fun hl => by
    obtain ⟨ad, e, hne⟩ := h.ne hb hl
    exact ⟨ad, e, fun p hp => by unfold Rw3.set; rw [cell_set (by rw [hp]; exact hne), cell_set (by rw [hp]; exact hne), cell_set (by rw [hp]; exact hne)]⟩
/-- one cell of it written -/
theorem Sl.set1 {w : World} {A : Option Addr} {n c : Nat} {L : List ByteArray} (h : Sl w A n c L) {g : Nat} {t : TypeId} {r : Int} {u : Bool} {A0 : Option Addr} {n0 c0 : Nat} (hb : Blk w g t (wrC r u A0 n0 c0)) (k : Nat) (x : Value) : Sl (w.setCell ⟨g, k, none⟩ x) A n c L :=
  h.keep (by rw [size_set]; exact Nat.le_refl _) fun hl => by
    obtain ⟨ad, e, hne⟩ := h.ne hb hl
    exact ⟨ad, e, fun p hp => cell_set (by rw [hp]; exact hne)⟩
theorem Sl.keeps (A : Option Addr) (n c : Nat) (L : List ByteArray) : Rg.Keeps (fun wx => Sl wx A n c L) := fun _ _ h hb => h.below hb
section
variable {P : Program} {ops : Array Oper} {Q : Exit → Act → World → Prop} {md : Region.Mode} {S T : World → Prop} {fuel : Nat} {listed : Array Bool} {a : Act} {w w0 w' : World} {K : Act → World → Prop}
/-- a call that only makes memory, and what it hands on -/
theorem st_with (hK : Shut (∀ a w, S w → (S w → wpAnyH P md ops Q S fuel listed a w) → K a w)) (hS : S w) (KS : Rg.Keeps S) (hB : Below w0.heap.size w0 w) (hb : Below w.heap.size w w') (hT : T w') (KT : Rg.Keeps T)
    (h : (S w' ∧ T w') → Rg.Keeps (fun wx => S wx ∧ T wx) → Below w0.heap.size w0 w' → wpAnyH P md ops Q (fun wx => S wx ∧ T wx) fuel listed a w') : K a w' :=
  hK.out _ _ (KS _ _ hS hb) (fun hS' => Rg.more (fun _ h => h.1) _ _ _ _ (h ⟨hS', hT⟩ (KS.and KT) (hB.trans (hb.mono hB.size))))
end
theorem from0 (r : Int) (u : Bool) (A : Option Addr) (n c : Nat) (L : List ByteArray) (w : World) (hS : Sl w A n c L) :
    Calls Try.prog 16 #[wrV r u A n c, .int .i64 0] w fun x w' => ∃ A', x = .returned (.slice A' n n) ∧ Sl w' A' n n L ∧ Below w.heap.size w w' := by
  have h := from_any r u A n c 0 L w hS (Nat.zero_le _)
  simpa using h
theorem from1 (r : Int) (u : Bool) (A : Option Addr) (n c : Nat) (L : List ByteArray) (w : World) (hS : Sl w A n c L) (hn : 1 ≤ n) :
    Calls Try.prog 16 #[wrV r u A n c, .int .i64 1] w fun x w' => ∃ A', x = .returned (.slice A' (n - 1) (n - 1)) ∧ Sl w' A' (n - 1) (n - 1) (L.drop 1) ∧ Below w.heap.size w w' :=
  from_any r u A n c 1 L w hS hn

theorem push_down (r : Int) (A : Option Addr) (n c : Nat) (s : ByteArray) (w : World) : Calls Try.prog 8 #[wrV r false A n c, .string s] w fun x w' => x = .returned (.tuple #[wrV r false A n c, .bool false]) ∧ Below w.heap.size w w' := by
  go_enter Try.func8, Try.ntmps8
  go_upto_region 1 with (fail)
  have HA := Lib.hid (blk_two w 25 25 (wrC r false A n c) zeroW)
  have HR := Lib.hid (fresh_second w (.cells (wrC r false A n c) 25) 25 zeroW)
  have HB := Lib.hid (below_two w (.cells (wrC r false A n c) 25) (.cells zeroW 25))
  generalize (w.alloc (.cells (wrC r false A n c) 25)).alloc (.cells zeroW 25) = w0 at HA HR HB ⊢
  cases Rw3.row HA.out
  cases Rw3.row HR.out
  go_wp2
  (try simp only [Exit.inBlock, Exit.then]); refine bodyPost_ret (results_row2 rfl _ _ (w.heap.size + 1) 25 _ (0, 0) _ rfl (Rw3.blk_set HR.out _ _ _) Try.underlying25 rfl info_w) rfl ?_
  exact ⟨rfl, Rw3.below_set HB.out (by omega) _ _ _⟩
theorem push_full (r : Int) (A : Option Addr) (n c : Nat) (s : ByteArray) (w : World) (h : decide (r ≤ (n : Int)) = true) : Calls Try.prog 8 #[wrV r true A n c, .string s] w fun x w' => x = .returned (.tuple #[wrV r true A n c, .bool false]) ∧ Below w.heap.size w w' := by
  go_enter Try.func8, Try.ntmps8
  go_upto_region 1 with (fail)
  have HA := Lib.hid (blk_two w 25 25 (wrC r true A n c) zeroW)
  have HR := Lib.hid (fresh_second w (.cells (wrC r true A n c) 25) 25 zeroW)
  have HB := Lib.hid (below_two w (.cells (wrC r true A n c) 25) (.cells zeroW 25))
  generalize (w.alloc (.cells (wrC r true A n c) 25)).alloc (.cells zeroW 25) = w0 at HA HR HB ⊢
  cases Rw3.row HA.out
  cases Rw3.row HR.out
  go_wp2
  (try simp only [Exit.inBlock, Exit.then]); refine bodyPost_ret (results_row2 rfl _ _ (w.heap.size + 1) 25 _ (0, 0) _ rfl (Rw3.blk_set HR.out _ _ _) Try.underlying25 rfl info_w) rfl ?_
  exact ⟨rfl, Rw3.below_set HB.out (by omega) _ _ _⟩
theorem rpush_down (r : Int) (A : Option Addr) (n c : Nat) (s : ByteArray) (w : World) : Calls Try.prog 9 #[wrV r true A n c, .string s] w fun x w' => x = .returned (.tuple #[wrV r true A n c, .bool false]) ∧ Below w.heap.size w w' := by
  go_enter Try.func9, Try.ntmps9
  go_upto_region 1 with (fail)
  have HA := Lib.hid (blk_two w 32 32 (wrC r true A n c) zeroW)
  have HR := Lib.hid (fresh_second w (.cells (wrC r true A n c) 32) 32 zeroW)
  have HB := Lib.hid (below_two w (.cells (wrC r true A n c) 32) (.cells zeroW 32))
  generalize (w.alloc (.cells (wrC r true A n c) 32)).alloc (.cells zeroW 32) = w0 at HA HR HB ⊢
  cases Rw3.row HA.out
  cases Rw3.row HR.out
  go_wp2
  (try simp only [Exit.inBlock, Exit.then]); refine bodyPost_ret (results_row2 rfl _ _ (w.heap.size + 1) 32 _ (0, 0) _ rfl (Rw3.blk_set HR.out _ _ _) Try.underlying32 rfl info_rw) rfl ?_
  exact ⟨rfl, Rw3.below_set HB.out (by omega) _ _ _⟩
theorem rpush_full (r : Int) (A : Option Addr) (n c : Nat) (s : ByteArray) (w : World) (h : decide (r ≤ (n : Int)) = true) : Calls Try.prog 9 #[wrV r false A n c, .string s] w fun x w' => x = .returned (.tuple #[wrV r false A n c, .bool false]) ∧ Below w.heap.size w w' := by
  go_enter Try.func9, Try.ntmps9
  go_upto_region 1 with (fail)
  have HA := Lib.hid (blk_two w 32 32 (wrC r false A n c) zeroW)
  have HR := Lib.hid (fresh_second w (.cells (wrC r false A n c) 32) 32 zeroW)
  have HB := Lib.hid (below_two w (.cells (wrC r false A n c) 32) (.cells zeroW 32))
  generalize (w.alloc (.cells (wrC r false A n c) 32)).alloc (.cells zeroW 32) = w0 at HA HR HB ⊢
  cases Rw3.row HA.out
  cases Rw3.row HR.out
  go_wp2
  (try simp only [Exit.inBlock, Exit.then]); refine bodyPost_ret (results_row2 rfl _ _ (w.heap.size + 1) 32 _ (0, 0) _ rfl (Rw3.blk_set HR.out _ _ _) Try.underlying32 rfl info_rw) rfl ?_
  exact ⟨rfl, Rw3.below_set HB.out (by omega) _ _ _⟩
set_option maxRecDepth 100000 in
set_option maxHeartbeats 2000000 in
theorem push_ok (r : Int) (A : Option Addr) (n c : Nat) (L : List ByteArray) (s : ByteArray) (w : World) (hS : Sl w A n c L) (hn : n ≤ 1000000) (h : decide (r ≤ (n : Int)) = false) :
    Calls Try.prog 8 #[wrV r true A n c, .string s] w fun x w' => ∃ A' c', x = .returned (.tuple #[wrV r true A' (n + 1) c', .bool true]) ∧ Sl w' A' (n + 1) c' (L ++ [s]) ∧ Below w.heap.size w w' := by
  obtain ⟨i0, hi, hz0, hz1, hz2⟩ := info_parts info_s
  have HSl := Lib.hid hS; clear hS
  go_enter Try.func8, Try.ntmps8
  go_upto_region 1 with (fail)
  have HA := Lib.hid (blk_two w 25 25 (wrC r true A n c) zeroW)
  have HR := Lib.hid (fresh_second w (.cells (wrC r true A n c) 25) 25 zeroW)
  have HB := Lib.hid (below_two w (.cells (wrC r true A n c) 25) (.cells zeroW 25))
  generalize (w.alloc (.cells (wrC r true A n c) 25)).alloc (.cells zeroW 25) = w0 at HA HR HB ⊢
  cases Rw3.row HA.out
  cases Rw3.row HR.out
  go_upto_region 3 with (fail)
  have HS0 := Lib.hid (HSl.out.below HB.out); clear HSl
  have L1 : w0.heap.size > w.heap.size + 1 := HR.out.lt
  refine wp_region_held_drew (S := fun wx => Blk wx w.heap.size 25 (wrC r true A n c)) (by kernel_rfl) HA.out.drew (fun hHeld => ?_)
  have HBR := Lib.hid ((Below.refl w0.heap.size w0).drew)
  have KS := Lib.hid (Rg.Keeps.one w.heap.size 25 (wrC r true A n c))
  generalize w0.drew = wd at hHeld HBR ⊢
  refine Rg.tk 0 (v := ?_) ?_ ?_
  rotate_left
  · intro wx hSx
    cases Rw3.row hSx; go_simp
    all_goals with_reducible rfl
  simp only [Act.put, Rg.e1, Rg.e2, Rg.e3, Rg.e4, Rg.e5, Rg.e6]
  refine Rg.tk 1 (v := ?_) ?_ ?_
  rotate_left
  · intro wx hSx
    cases Rw3.row hSx; go_simp
    all_goals with_reducible rfl
  simp only [Act.put, Rg.e1, Rg.e2, Rg.e3, Rg.e4, Rg.e5, Rg.e6]
  refine Rg.tk 3 (v := ?_) ?_ ?_
  rotate_left
  · (intro wx hSx; go_simp; all_goals with_reducible rfl)
  simp only [Act.put, Rg.e1, Rg.e2, Rg.e3, Rg.e4, Rg.e5, Rg.e6]
  refine wpAnyH_ready (rs := [2, 4]) (by kernel_rfl) (by simp) ?_
  refine .cons (o := _) rfl (fun K hK => ?_) ?_
  · go_simp
    refine (from0 r true A n c L wd (HS0.out.below HBR.out)).mono ?_
    rintro e wr1 ⟨A1, rfl, hS1, hbc⟩
    go_wp2_with fail
    refine st_with hK hHeld KS.out HBR.out hbc hS1 (Sl.keeps A1 n n L) ?_
    clear hK K
    intro hHeld ks hbr
    have HBR := Lib.hid hbr
    have KS := Lib.hid ks
    clear hbr ks hbc hS1
    try simp only [Rg.e1, Rg.e2, Rg.e3]
    refine wpAnyH_ready (rs := [4]) (by kernel_rfl) (by simp) ?_
    refine .cons (o := _) rfl (fun K hK => ?_) ?_
    · go_simp
      refine Rg.st_alloc hK hHeld KS.out HBR.out ?_
      clear hK K
      intro wr2 hlt hHeld ks hbr
      have HBR := Lib.hid hbr
      have KS := Lib.hid ks
      clear hbr ks hlt
      try simp only [Rg.e1, Rg.e2, Rg.e3]
      refine wpAnyH_ready (rs := [5]) (by kernel_rfl) (by simp) ?_
      refine .cons (o := _) rfl (fun K hK => ?_) ?_
      · refine step_append_full rfl (.tmp 20) (.tmp 22) 23 rfl 9 i0 (.string ByteArray.empty) 16 Try.underlying23 hi hz0 hz1 hz2 rfl A1 n L rfl (by first | exact hHeld.2 | exact hHeld.1.2) s _ _ rfl (by first | exact hHeld.2 | exact hHeld.1.2) (by unfold maxLen; omega) (by omega) ?_
        intro A2 c2 wr3 hS2 hbc
        have HS2 := Lib.hid hS2; clear hS2
        simp only [Act.put, Rg.e1, Rg.e2, Rg.e3, Rg.e4, Rg.e5, Rg.e6]
        refine Rg.st_call hK hHeld KS.out HBR.out hbc ?_
        clear hK K
        intro hHeld hbr
        have HBR := Lib.hid hbr
        clear hbr hbc
        try simp only [Rg.e1, Rg.e2, Rg.e3]
        refine wpAnyH_ready (rs := [6]) (by kernel_rfl) (by simp) ?_
        refine .cons (o := _) rfl (fun K hK => ?_) ?_
        · go_simp
          refine (with_any r true A n c _ _ _ wr3).mono ?_
          rintro e wr4 ⟨rfl, hbc⟩
          have HS3 := Lib.hid (HS2.out.below hbc); clear HS2
          go_wp2_with fail
          refine Rg.st_call hK hHeld KS.out HBR.out hbc ?_
          clear hK K
          intro hHeld hbr
          have HBR := Lib.hid hbr
          clear hbr hbc
          try simp only [Rg.e1, Rg.e2, Rg.e3]
          refine wpAnyH_ready (rs := [7]) (by kernel_rfl) (by simp) ?_
          refine .cons (o := _) rfl (fun K hK => ?_) ?_
          · cases Rw3.row (HR.out.below HBR.out HR.out.lt)
            go_simp
            have HRx : Hid (Blk wr4 (w.heap.size + 1) 25 zeroW) := Lib.hid (HR.out.below HBR.out HR.out.lt)
            refine Rg.st_same hK (by first | exact ⟨⟨Rw3.far hHeld.1.1 (by omega) _ _ _, Sl.set3 hHeld.1.2 HRx.out _ _ _⟩, Rw3.far hHeld.2 (blk_ne hHeld.2 HRx.out (by decide)) _ _ _⟩ | exact ⟨⟨Rw3.far hHeld.1.1 (by omega) _ _ _, Rw3.far hHeld.1.2 (blk_ne hHeld.1.2 HRx.out (by decide)) _ _ _⟩, Sl.set3 hHeld.2 HRx.out _ _ _⟩) (fun hHeld => ?_)
            clear hK K
            obtain ⟨wr5, hw9⟩ : ∃ wr5, wr5 = Rw3.set wr4 (w.heap.size + 1) (.int .i64 r) (.bool true) (.slice A2 (n + 1) c2) := ⟨_, rfl⟩
            have HRt : Hid (Blk wr5 (w.heap.size + 1) 25 (wrC r true A2 (n + 1) c2)) := Lib.hid (by rw [hw9]; exact Rw3.blk_set HRx.out _ _ _)
            have HS4 : Hid (Sl wr5 A2 (n + 1) c2 (L ++ [s])) := Lib.hid (by rw [hw9]; exact Sl.set3 HS3.out HRx.out _ _ _)
            have HB4 : Hid (Below w.heap.size w wr5) := Lib.hid (by rw [hw9]; exact Rw3.below_set (HB.out.trans (HBR.out.mono HB.out.size)) (by omega) _ _ _)
            dsimp only [Rw3.set] at hw9
            rw [← hw9] at hHeld ⊢
            clear hw9
            try simp only [Rg.e1, Rg.e2, Rg.e3]
            refine Rg.tk 8 (v := ?_) ?_ ?_
            rotate_left
            · (intro wx hSx; go_simp; all_goals with_reducible rfl)
            simp only [Act.put, Rg.e1, Rg.e2, Rg.e3, Rg.e4, Rg.e5, Rg.e6]
            refine wpAnyH_done (by kernel_rfl) ?_ _
            go_wp2
            (try simp only [Exit.inBlock, Exit.then]); refine bodyPost_ret (results_row2 rfl _ _ (w.heap.size + 1) 25 _ (0, 0) _ rfl HRt.out Try.underlying25 rfl info_w) rfl ?_
            exact ⟨A2, c2, rfl, HS4.out, HB4.out⟩
          exact AllReadyH.nil
        exact AllReadyH.nil
      exact AllReadyH.nil
    exact AllReadyH.nil
  refine .cons (o := _) rfl (fun K hK => ?_) ?_
  · go_simp
    refine Rg.st_alloc hK hHeld KS.out HBR.out ?_
    clear hK K
    intro wr6 hlt hHeld ks hbr
    have HBR := Lib.hid hbr
    have KS := Lib.hid ks
    clear hbr ks hlt
    try simp only [Rg.e1, Rg.e2, Rg.e3]
    refine wpAnyH_ready (rs := [2]) (by kernel_rfl) (by simp) ?_
    refine .cons (o := _) rfl (fun K hK => ?_) ?_
    · go_simp
      refine (from0 r true A n c L wr6 (HS0.out.below HBR.out)).mono ?_
      rintro e wr7 ⟨A1, rfl, hS1, hbc⟩
      go_wp2_with fail
      refine st_with hK hHeld KS.out HBR.out hbc hS1 (Sl.keeps A1 n n L) ?_
      clear hK K
      intro hHeld ks hbr
      have HBR := Lib.hid hbr
      have KS := Lib.hid ks
      clear hbr ks hbc hS1
      try simp only [Rg.e1, Rg.e2, Rg.e3]
      refine wpAnyH_ready (rs := [5]) (by kernel_rfl) (by simp) ?_
      refine .cons (o := _) rfl (fun K hK => ?_) ?_
      · refine step_append_full rfl (.tmp 20) (.tmp 22) 23 rfl 9 i0 (.string ByteArray.empty) 16 Try.underlying23 hi hz0 hz1 hz2 rfl A1 n L rfl (by first | exact hHeld.2 | exact hHeld.1.2) s _ _ rfl (by first | exact hHeld.2 | exact hHeld.1.2) (by unfold maxLen; omega) (by omega) ?_
        intro A2 c2 wr8 hS2 hbc
        have HS2 := Lib.hid hS2; clear hS2
        simp only [Act.put, Rg.e1, Rg.e2, Rg.e3, Rg.e4, Rg.e5, Rg.e6]
        refine Rg.st_call hK hHeld KS.out HBR.out hbc ?_
        clear hK K
        intro hHeld hbr
        have HBR := Lib.hid hbr
        clear hbr hbc
        try simp only [Rg.e1, Rg.e2, Rg.e3]
        refine wpAnyH_ready (rs := [6]) (by kernel_rfl) (by simp) ?_
        refine .cons (o := _) rfl (fun K hK => ?_) ?_
        · go_simp
          refine (with_any r true A n c _ _ _ wr8).mono ?_
          rintro e wr9 ⟨rfl, hbc⟩
          have HS3 := Lib.hid (HS2.out.below hbc); clear HS2
          go_wp2_with fail
          refine Rg.st_call hK hHeld KS.out HBR.out hbc ?_
          clear hK K
          intro hHeld hbr
          have HBR := Lib.hid hbr
          clear hbr hbc
          try simp only [Rg.e1, Rg.e2, Rg.e3]
          refine wpAnyH_ready (rs := [7]) (by kernel_rfl) (by simp) ?_
          refine .cons (o := _) rfl (fun K hK => ?_) ?_
          · cases Rw3.row (HR.out.below HBR.out HR.out.lt)
            go_simp
            have HRx : Hid (Blk wr9 (w.heap.size + 1) 25 zeroW) := Lib.hid (HR.out.below HBR.out HR.out.lt)
            refine Rg.st_same hK (by first | exact ⟨⟨Rw3.far hHeld.1.1 (by omega) _ _ _, Sl.set3 hHeld.1.2 HRx.out _ _ _⟩, Rw3.far hHeld.2 (blk_ne hHeld.2 HRx.out (by decide)) _ _ _⟩ | exact ⟨⟨Rw3.far hHeld.1.1 (by omega) _ _ _, Rw3.far hHeld.1.2 (blk_ne hHeld.1.2 HRx.out (by decide)) _ _ _⟩, Sl.set3 hHeld.2 HRx.out _ _ _⟩) (fun hHeld => ?_)
            clear hK K
            obtain ⟨wr10, hw9⟩ : ∃ wr10, wr10 = Rw3.set wr9 (w.heap.size + 1) (.int .i64 r) (.bool true) (.slice A2 (n + 1) c2) := ⟨_, rfl⟩
            have HRt : Hid (Blk wr10 (w.heap.size + 1) 25 (wrC r true A2 (n + 1) c2)) := Lib.hid (by rw [hw9]; exact Rw3.blk_set HRx.out _ _ _)
            have HS4 : Hid (Sl wr10 A2 (n + 1) c2 (L ++ [s])) := Lib.hid (by rw [hw9]; exact Sl.set3 HS3.out HRx.out _ _ _)
            have HB4 : Hid (Below w.heap.size w wr10) := Lib.hid (by rw [hw9]; exact Rw3.below_set (HB.out.trans (HBR.out.mono HB.out.size)) (by omega) _ _ _)
            dsimp only [Rw3.set] at hw9
            rw [← hw9] at hHeld ⊢
            clear hw9
            try simp only [Rg.e1, Rg.e2, Rg.e3]
            refine Rg.tk 8 (v := ?_) ?_ ?_
            rotate_left
            · (intro wx hSx; go_simp; all_goals with_reducible rfl)
            simp only [Act.put, Rg.e1, Rg.e2, Rg.e3, Rg.e4, Rg.e5, Rg.e6]
            refine wpAnyH_done (by kernel_rfl) ?_ _
            go_wp2
            (try simp only [Exit.inBlock, Exit.then]); refine bodyPost_ret (results_row2 rfl _ _ (w.heap.size + 1) 25 _ (0, 0) _ rfl HRt.out Try.underlying25 rfl info_w) rfl ?_
            exact ⟨A2, c2, rfl, HS4.out, HB4.out⟩
          exact AllReadyH.nil
        exact AllReadyH.nil
      exact AllReadyH.nil
    exact AllReadyH.nil
  exact AllReadyH.nil
end Go.Proofs.Ytaolhjmmgippmaa.Wr
