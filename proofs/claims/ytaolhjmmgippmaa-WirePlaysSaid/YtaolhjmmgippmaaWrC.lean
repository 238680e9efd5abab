/-
  Wires: Push of the document, Pop of the program and of the document.
-/
import Derived.Test.YtaolhjmmgippmaaWrB
namespace Go.Proofs.Ytaolhjmmgippmaa.Wr
open Go.RowKit Go.Proofs.Ytaolhjmmgippmaa.Mm Go.Proofs.Ytaolhjmmgippmaa.Tg
set_option linter.unusedVariables false
set_option linter.unusedSimpArgs false

theorem results_cell_tmp2 {fn : Func} {p u v : Tmp} {ty : TypeId} (h : fn.results = #[.cell p ty, .tmp u, .tmp v]) (tmps : Array Value) (P : Program) (w : World) :
    (results fn tmps).run P w = ((asAddr (tmps.getD p undef)).run P w).andThen fun a w₁ => ((loadVar ty a).run P w₁).andThen fun x w₂ => .ok (.tuple #[x, tmps.getD u undef, tmps.getD v undef]) w₂ := by
  simp only [results, h]
  simp [Sem.run_bind, Result.andThen]
theorem results_row3 {P : Program} {fn : Func} {p u v : Tmp} {ty : TypeId} (h : fn.results = #[.cell p ty, .tmp u, .tmp v]) (tmps : Array Value) (w : World) (g : Nat) (t : TypeId) (cs : Array Value) (fr : Nat × Nat) (d : TypeDesc)
    (hp : tmps.getD p undef = .pointer (some ⟨g, 0, none⟩)) (hg : w.heap[g]? = some (.cells cs t fr))
    (hu : P.underlying ty = some d) (hd : (match d with | .struct _ | .array _ _ => true | _ => false) = true) (hi : (P.info? ty).map (·.size) = some cs.size) :
    (results fn tmps).run P w = .ok (.tuple #[.agg cs, tmps.getD u undef, tmps.getD v undef]) w := by
  rw [results_cell_tmp2 h, hp]
  simp [asAddr, run_loadVar_row w g t ty cs fr d hg hu hd hi, Result.andThen]

theorem keeps_cell (ad : Addr) (v : Value) : Rg.Keeps (fun wx => ad.block < wx.heap.size ∧ wx.cell? ad = some v) := fun w w' h hb => ⟨Nat.lt_of_lt_of_le h.1 hb.size, (hb.cell (p := ad) h.1).trans h.2⟩
theorem cell_set3 {w : World} {g : Nat} {t : TypeId} {r : Int} {u : Bool} {A0 : Option Addr} {n0 c0 : Nat} {ad : Addr} {s : ByteArray} {x0 x1 x2 : Value} (h : w.cell? ad = some (.string s)) (hb : Blk w g t (wrC r u A0 n0 c0)) : (Rw3.set w g x0 x1 x2).cell? ad = w.cell? ad := by
  have hne : ad.block ≠ g := fun e => wire_text hb e h
  unfold Rw3.set
  rw [cell_set hne, cell_set hne, cell_set hne]

set_option maxRecDepth 100000 in
set_option maxHeartbeats 2000000 in
theorem rpush_ok (r : Int) (A : Option Addr) (n c : Nat) (L : List ByteArray) (s : ByteArray) (w : World) (hS : Sl w A n c L) (hn : n ≤ 1000000) (h : decide (r ≤ (n : Int)) = false) :
    Calls Try.prog 9 #[wrV r false A n c, .string s] w fun x w' => ∃ A' c', x = .returned (.tuple #[wrV r false A' (n + 1) c', .bool true]) ∧ Sl w' A' (n + 1) c' (L ++ [s]) ∧ Below w.heap.size w w' := by
  obtain ⟨i0, hi, hz0, hz1, hz2⟩ := info_parts info_s
  have HSl := Lib.hid hS; clear hS
  go_enter Try.func9, Try.ntmps9
  go_upto_region 1 with (fail)
  have HA := Lib.hid (blk_two w 32 32 (wrC r false A n c) zeroW)
  have HR := Lib.hid (fresh_second w (.cells (wrC r false A n c) 32) 32 zeroW)
  have HB := Lib.hid (below_two w (.cells (wrC r false A n c) 32) (.cells zeroW 32))
  generalize (w.alloc (.cells (wrC r false A n c) 32)).alloc (.cells zeroW 32) = w0 at HA HR HB ⊢
  cases Rw3.row HA.out
  cases Rw3.row HR.out
  go_upto_region 3 with (fail)
  have HS0 := Lib.hid ((HSl.out.below HB.out).below ((Below.refl w0.heap.size w0).alloc (Nat.le_refl _) (.cells #[] 9))); clear HSl
  have hlr : w.heap.size + 1 < w0.heap.size := HR.out.lt
  have O1 := Lib.hid (World.ownsRow_lit (base := w0.heap.size) (e := 9) (size := 1) w0 #[] 0 (Nat.le_refl _) (by unfold maxLen; omega) rfl)
  have B1 := Lib.hid ((Below.refl w0.heap.size w0).alloc (Nat.le_refl _) (.cells #[] 9))
  have hba := HA.out.alloc (.cells #[] 9)
  cases Rw3.row hba
  clear hba
  go_wp2_with (first
    | (at_builtin; refine wpList_append_src rfl (.tmp 17) (.tmp 19) 23 rfl w0.heap.size 9 i0 (.string ByteArray.empty) 16 Try.underlying23 hi hz0 hz1 hz2 rfl _ 0 [] rfl O1.out A n c L rfl HS0.out (by unfold maxLen; omega) (by omega) B1.out.size ?_; intro v1 w1 hown hgrow; have B2 := Lib.hid (below_own B1.out O1.out B1.out.size hgrow); have O2 := Lib.hid hown; clear hown hgrow)
    | (at_builtin; refine wpList_append_own _ rfl (.tmp 20) (.tmp 22) 23 rfl w0.heap.size 9 i0 (.string ByteArray.empty) 1 16 Try.underlying23 hi hz0 hz1 hz2 rfl (by decide) _ _ _ rfl (O2.out.alloc _) ⟨w1.heap.size, 0, none⟩ 1 1 [.string s] rfl rfl (cells_new _ _ _ _ _ rfl rfl) (by intro u hu; obtain rfl := List.mem_singleton.1 hu; rfl) (by unfold maxLen; omega) (by omega) (by have := B2.out.size; simp; omega) ?_; intro v2 w2 hown hgrow _; have B3 := Lib.hid (below_own (B2.out.alloc B2.out.size _) (O2.out.alloc _) (by have := B2.out.size; simp; omega) hgrow); have hO3 : w2.ownsRow w0.heap.size 9 1 v2 (n + 1) (strs (L ++ [s])) := (by simpa [strs] using hown); obtain ⟨A2, c2, hv2, hS2⟩ := Sl.own hO3; clear hown hgrow hO3; subst hv2; have HS2 := Lib.hid hS2; have HA2 := Lib.hid (HA.out.below B3.out HA.out.lt); have HR2 := Lib.hid (HR.out.below B3.out HR.out.lt); clear hS2; cases Rw3.row HA2.out; cases Rw3.row HR2.out))
  have HRx := Lib.hid (HR2.out.far (p := ⟨w.heap.size, 2, none⟩) (by simp) (.slice A2 (n + 1) c2))
  (try simp only [Exit.inBlock, Exit.then]); refine bodyPost_ret (results_row2 rfl _ _ (w.heap.size + 1) 32 _ (0, 0) _ rfl (Rw3.blk_set HRx.out _ _ _) Try.underlying32 rfl info_rw) rfl ?_
  exact ⟨A2, c2, rfl, (HS2.out.set1 HA2.out 2 _).set3 HRx.out _ _ _, Rw3.below_set ((HB.out.trans (B3.out.mono HB.out.size)).setCell (p := ⟨w.heap.size, 2, none⟩) (Nat.le_refl _) _) (by omega) _ _ _⟩
theorem pop_none (r : Int) (u : Bool) (A : Option Addr) (c : Nat) (w : World) : Calls Try.prog 10 #[wrV r u A 0 c] w fun x w' => x = .returned (.tuple #[wrV r u A 0 c, .string ByteArray.empty, .bool false]) ∧ Below w.heap.size w w' := by
  go_enter Try.func10, Try.ntmps10
  go_upto_region 1 with (fail)
  have HA := Lib.hid (blk_two w 25 25 (wrC r u A 0 c) zeroW)
  have HR := Lib.hid (fresh_second w (.cells (wrC r u A 0 c) 25) 25 zeroW)
  have HB := Lib.hid (below_two w (.cells (wrC r u A 0 c) 25) (.cells zeroW 25))
  generalize (w.alloc (.cells (wrC r u A 0 c) 25)).alloc (.cells zeroW 25) = w0 at HA HR HB ⊢
  cases Rw3.row HA.out
  cases Rw3.row HR.out
  go_wp2
  (try simp only [Exit.inBlock, Exit.then]); refine bodyPost_ret (results_row3 rfl _ _ (w.heap.size + 1) 25 _ (0, 0) _ rfl (Rw3.blk_set HR.out _ _ _) Try.underlying25 rfl info_w) rfl ?_
  exact ⟨rfl, Rw3.below_set HB.out (by omega) _ _ _⟩
theorem rpop_none (r : Int) (u : Bool) (A : Option Addr) (c : Nat) (w : World) : Calls Try.prog 11 #[wrV r u A 0 c] w fun x w' => x = .returned (.tuple #[wrV r u A 0 c, .string ByteArray.empty, .bool false]) ∧ Below w.heap.size w w' := by
  go_enter Try.func11, Try.ntmps11
  go_upto_region 1 with (fail)
  have HA := Lib.hid (blk_two w 32 32 (wrC r u A 0 c) zeroW)
  have HR := Lib.hid (fresh_second w (.cells (wrC r u A 0 c) 32) 32 zeroW)
  have HB := Lib.hid (below_two w (.cells (wrC r u A 0 c) 32) (.cells zeroW 32))
  generalize (w.alloc (.cells (wrC r u A 0 c) 32)).alloc (.cells zeroW 32) = w0 at HA HR HB ⊢
  cases Rw3.row HA.out
  cases Rw3.row HR.out
  go_wp2
  (try simp only [Exit.inBlock, Exit.then]); refine bodyPost_ret (results_row3 rfl _ _ (w.heap.size + 1) 32 _ (0, 0) _ rfl (Rw3.blk_set HR.out _ _ _) Try.underlying32 rfl info_rw) rfl ?_
  exact ⟨rfl, Rw3.below_set HB.out (by omega) _ _ _⟩
set_option maxRecDepth 100000 in
set_option maxHeartbeats 2000000 in
theorem pop_ok (r : Int) (u : Bool) (A : Option Addr) (n c : Nat) (s : ByteArray) (L : List ByteArray) (w : World) (hS : Sl w A n c (s :: L)) :
    Calls Try.prog 10 #[wrV r u A n c] w fun x w' => ∃ A' c', x = .returned (.tuple #[wrV r u A' (n - 1) c', .string s, .bool true]) ∧ Sl w' A' (n - 1) c' L ∧ Below w.heap.size w w' := by
  have hlen : L.length + 1 = n := hS.len
  have e0 : ((n : Int) == 0) = false := by simp only [beq_eq_false_iff_ne]; omega
  have hn1 : 1 ≤ n := by omega
  have hi2 : (0 : Int) ≤ 0 ∧ (0 : Int) < (n : Int) := by omega
  have hi3 : (0 : Int) < (n : Int) := by omega
  have hi5 : 0 < n := by omega
  obtain ⟨ad, hAd, hbl, hcell⟩ := hS.at (i := 0) (by simp)
  simp only [List.getElem_cons_zero] at hcell
  have h0 : ad.add (0 * 1) = ad := by unfold Addr.add; simp
  rw [h0] at hcell
  clear h0
  subst hAd
  have HSl := Lib.hid hS; clear hS
  go_enter Try.func10, Try.ntmps10
  go_upto_region 1 with (fail)
  have HA := Lib.hid (blk_two w 25 25 (wrC r u (some ad) n c) zeroW)
  have HR := Lib.hid (fresh_second w (.cells (wrC r u (some ad) n c) 25) 25 zeroW)
  have HB := Lib.hid (below_two w (.cells (wrC r u (some ad) n c) 25) (.cells zeroW 25))
  generalize (w.alloc (.cells (wrC r u (some ad) n c) 25)).alloc (.cells zeroW 25) = w0 at HA HR HB ⊢
  cases Rw3.row HA.out
  cases Rw3.row HR.out
  have hcell0 : w0.cell? ad = some (.string s) := (HB.out.cell (p := ad) hbl).trans hcell
  have hbl0 : ad.block < w0.heap.size := Nat.lt_of_lt_of_le hbl HB.out.size
  clear hcell hbl
  go_upto_region 3 with (fail)
  have HS0 := Lib.hid (HSl.out.below HB.out); clear HSl
  refine wp_region_held_drew (S := fun wx => Blk wx w.heap.size 25 (wrC r u (some ad) n c) ∧ ad.block < wx.heap.size ∧ wx.cell? ad = some (.string s)) (by kernel_rfl) ⟨HA.out.drew, hbl0, hcell0⟩ (fun hHeld => ?_)
  have HBR := Lib.hid ((Below.refl w0.heap.size w0).drew)
  have KS := Lib.hid ((Rg.Keeps.one w.heap.size 25 (wrC r u (some ad) n c)).and (keeps_cell ad (.string s)))
  generalize w0.drew = wd at hHeld HBR ⊢
  clear hcell0 hbl0
  refine Rg.tk 0 (v := ?_) ?_ ?_
  rotate_left
  · intro wx hSx
    cases Rw3.row hSx.1; have hcl := hSx.2.2; go_simp
    all_goals with_reducible rfl
  simp only [Act.put, Rg.e1, Rg.e2, Rg.e3, Rg.e4, Rg.e5, Rg.e6]
  refine Rg.tk 1 (v := ?_) ?_ ?_
  rotate_left
  · intro wx hSx
    cases Rw3.row hSx.1; have hcl := hSx.2.2; go_simp
    all_goals with_reducible rfl
  simp only [Act.put, Rg.e1, Rg.e2, Rg.e3, Rg.e4, Rg.e5, Rg.e6]
  refine Rg.tk 4 (v := ?_) ?_ ?_
  rotate_left
  · (intro wx hSx; go_simp; all_goals with_reducible rfl)
  simp only [Act.put, Rg.e1, Rg.e2, Rg.e3, Rg.e4, Rg.e5, Rg.e6]
  refine Rg.tk 5 (v := ?_) ?_ ?_
  rotate_left
  · intro wx hSx
    cases Rw3.row hSx.1; have hcl := hSx.2.2; go_simp
    all_goals with_reducible rfl
  simp only [Act.put, Rg.e1, Rg.e2, Rg.e3, Rg.e4, Rg.e5, Rg.e6]
  refine Rg.tk 6 (v := ?_) ?_ ?_
  rotate_left
  · (intro wx hSx; go_simp; all_goals with_reducible rfl)
  simp only [Act.put, Rg.e1, Rg.e2, Rg.e3, Rg.e4, Rg.e5, Rg.e6]
  refine Rg.tk 7 (v := ?_) ?_ ?_
  rotate_left
  · intro wx hSx
    cases Rw3.row hSx.1; have hcl := hSx.2.2; go_simp
    all_goals with_reducible rfl
  simp only [Act.put, Rg.e1, Rg.e2, Rg.e3, Rg.e4, Rg.e5, Rg.e6]
  refine wpAnyH_ready (rs := [2]) (by kernel_rfl) (by simp) ?_
  refine .cons (o := _) rfl (fun K hK => ?_) ?_
  · go_simp
    refine (from1 r u (some ad) n c (s :: L) wd (HS0.out.below HBR.out) hn1).mono ?_
    rintro e wr1 ⟨A1, rfl, hS1, hbc⟩
    go_wp2_with fail
    refine st_with hK hHeld KS.out HBR.out hbc hS1 (Sl.keeps A1 _ _ _) ?_
    clear hK K
    intro hHeld ks hbr
    have HBR := Lib.hid hbr
    have KS := Lib.hid ks
    clear hbr ks hbc hS1
    try simp only [Rg.e1, Rg.e2, Rg.e3]
    refine wpAnyH_ready (rs := [3]) (by kernel_rfl) (by simp) ?_
    refine .cons (o := _) rfl (fun K hK => ?_) ?_
    · go_simp
      refine (with_any r u (some ad) n c _ _ _ wr1).mono ?_
      rintro e wr2 ⟨rfl, hbc⟩
      go_wp2_with fail
      refine Rg.st_call hK hHeld KS.out HBR.out hbc ?_
      clear hK K
      intro hHeld hbr
      have HBR := Lib.hid hbr
      clear hbr hbc
      try simp only [Rg.e1, Rg.e2, Rg.e3]
      refine wpAnyH_ready (rs := [8]) (by kernel_rfl) (by simp) ?_
      refine .cons (o := _) rfl (fun K hK => ?_) ?_
      · cases Rw3.row (HR.out.below HBR.out HR.out.lt)
        go_simp
        have HRx : Hid (Blk wr2 (w.heap.size + 1) 25 zeroW) := Lib.hid (HR.out.below HBR.out HR.out.lt)
        refine Rg.st_same hK ⟨⟨Rw3.far hHeld.1.1 (by omega) _ _ _, by have := hHeld.1.2.1; simp only [Rw3.set, size_set]; exact this, (cell_set3 hHeld.1.2.2 HRx.out).trans hHeld.1.2.2⟩, Sl.set3 hHeld.2 HRx.out _ _ _⟩ (fun hHeld => ?_)
        clear hK K
        obtain ⟨wr3, hw9⟩ : ∃ wr3, wr3 = Rw3.set wr2 (w.heap.size + 1) (.int .i64 r) (.bool u) (.slice A1 (n - 1) (n - 1)) := ⟨_, rfl⟩
        have HRt : Hid (Blk wr3 (w.heap.size + 1) 25 (wrC r u A1 (n - 1) (n - 1))) := Lib.hid (by rw [hw9]; exact Rw3.blk_set HRx.out _ _ _)
        have HB4 : Hid (Below w.heap.size w wr3) := Lib.hid (by rw [hw9]; exact Rw3.below_set (HB.out.trans (HBR.out.mono HB.out.size)) (by omega) _ _ _)
        dsimp only [Rw3.set] at hw9
        rw [← hw9] at hHeld ⊢
        clear hw9
        try simp only [Rg.e1, Rg.e2, Rg.e3]
        refine Rg.tk 9 (v := ?_) ?_ ?_
        rotate_left
        · (intro wx hSx; go_simp; all_goals with_reducible rfl)
        simp only [Act.put, Rg.e1, Rg.e2, Rg.e3, Rg.e4, Rg.e5, Rg.e6]
        refine Rg.tk 10 (v := ?_) ?_ ?_
        rotate_left
        · (intro wx hSx; go_simp; all_goals with_reducible rfl)
        simp only [Act.put, Rg.e1, Rg.e2, Rg.e3, Rg.e4, Rg.e5, Rg.e6]
        refine wpAnyH_done (by kernel_rfl) ?_ _
        go_wp2
        (try simp only [Exit.inBlock, Exit.then]); refine bodyPost_ret (results_row3 rfl _ _ (w.heap.size + 1) 25 _ (0, 0) _ rfl HRt.out Try.underlying25 rfl info_w) rfl ?_
        exact ⟨A1, n - 1, rfl, hHeld.2, HB4.out⟩
      exact AllReadyH.nil
    exact AllReadyH.nil
  exact AllReadyH.nil
set_option maxRecDepth 100000 in
set_option maxHeartbeats 2000000 in
theorem rpop_ok (r : Int) (u : Bool) (A : Option Addr) (n c : Nat) (s : ByteArray) (L : List ByteArray) (w : World) (hS : Sl w A n c (s :: L)) (hn : n ≤ 1000000) :
    Calls Try.prog 11 #[wrV r u A n c] w fun x w' => ∃ A' c', x = .returned (.tuple #[wrV r u A' (n - 1) c', .string s, .bool true]) ∧ Sl w' A' (n - 1) c' L ∧ Below w.heap.size w w' := by
  obtain ⟨i0, hi, hz0, hz1, hz2⟩ := info_parts info_s
  have hlen : L.length + 1 = n := hS.len
  have e0 : ((n : Int) == 0) = false := by simp only [beq_eq_false_iff_ne]; omega
  have hn1 : 1 ≤ n := by omega
  have hi2 : (0 : Int) ≤ 0 ∧ (0 : Int) < (n : Int) := by omega
  have hi3 : (0 : Int) < (n : Int) := by omega
  have hi5 : 0 < n := by omega
  have hi4 : (1 : Int) ≤ (n : Int) := by omega
  obtain ⟨ad, hAd, hbl, hcell⟩ := hS.at (i := 0) (by simp)
  simp only [List.getElem_cons_zero] at hcell
  have h0 : ad.add (0 * 1) = ad := by unfold Addr.add; simp
  rw [h0] at hcell
  clear h0
  subst hAd
  have HSl := Lib.hid hS; clear hS
  go_enter Try.func11, Try.ntmps11
  go_upto_region 1 with (fail)
  have HA := Lib.hid (blk_two w 32 32 (wrC r u (some ad) n c) zeroW)
  have HR := Lib.hid (fresh_second w (.cells (wrC r u (some ad) n c) 32) 32 zeroW)
  have HB := Lib.hid (below_two w (.cells (wrC r u (some ad) n c) 32) (.cells zeroW 32))
  generalize (w.alloc (.cells (wrC r u (some ad) n c) 32)).alloc (.cells zeroW 32) = w0 at HA HR HB ⊢
  cases Rw3.row HA.out
  cases Rw3.row HR.out
  have hcell0 : w0.cell? ad = some (.string s) := (HB.out.cell (p := ad) hbl).trans hcell
  clear hcell hbl
  go_upto_region 4 with (fail)
  have B1 := Lib.hid ((Below.refl w0.heap.size w0).alloc (Nat.le_refl _) (.cells #[] 9))
  have O1 := Lib.hid (World.ownsRow_lit (base := w0.heap.size) (e := 9) (size := 1) w0 #[] 0 (Nat.le_refl _) (by unfold maxLen; omega) rfl)
  have HS1 := Lib.hid ((HSl.out.below HB.out).below B1.out); clear HSl hcell0
  have hcap := HS1.out.cap
  have hba := HA.out.alloc (.cells #[] 9)
  have hlr : w.heap.size + 1 < w0.heap.size := HR.out.lt
  cases Rw3.row hba
  clear hba
  by_cases hc1 : c = 1
  · have hn2 : n = 1 := by omega
    subst hc1 hn2
    have HS2 := Lib.hid (HS1.out.cut (k := 1) (Nat.le_refl _) 1 (Nat.le_refl _) (Nat.le_refl _)); clear HS1
    rw [if_pos rfl] at HS2
    have hL : L = [] := List.eq_nil_of_length_eq_zero (by omega)
    subst hL
    go_wp2_with (at_builtin; refine wpList_append_src rfl (.tmp 15) (.tmp 18) 23 rfl w0.heap.size 9 i0 (.string ByteArray.empty) 16 Try.underlying23 hi hz0 hz1 hz2 rfl _ 0 [] rfl O1.out (some ad) (0 : Nat) _ [] rfl (by simpa using HS2.out) (by unfold maxLen; omega) (by omega) B1.out.size ?_; intro v1 w1 hown hgrow; have B2 := Lib.hid (below_own B1.out O1.out B1.out.size hgrow); have hO2 : w1.ownsRow w0.heap.size 9 1 v1 (0 : Nat) (strs []) := (by simpa using hown); obtain ⟨A2, c2, hv2, hS2⟩ := Sl.own hO2; clear hown hgrow hO2; subst hv2; have HS3 := Lib.hid hS2; have HA2 := Lib.hid (HA.out.below B2.out HA.out.lt); have HR2 := Lib.hid (HR.out.below B2.out HR.out.lt); clear hS2; cases Rw3.row HA2.out; cases Rw3.row HR2.out)
    have HRx := Lib.hid (HR2.out.far (p := ⟨w.heap.size, 2, none⟩) (by simp) (.slice A2 (0 : Nat) c2))
    (try simp only [Exit.inBlock, Exit.then]); refine bodyPost_ret (results_row3 rfl _ _ (w.heap.size + 1) 32 _ (0, 0) _ rfl (Rw3.blk_set HRx.out _ _ _) Try.underlying32 rfl info_rw) rfl ?_
    exact ⟨A2, c2, rfl, (HS3.out.set1 HA2.out 2 _).set3 HRx.out _ _ _, Rw3.below_set ((HB.out.trans (B2.out.mono HB.out.size)).setCell (p := ⟨w.heap.size, 2, none⟩) (Nat.le_refl _) _) (by omega) _ _ _⟩
  · have HS2 := Lib.hid (HS1.out.cut (k := 1) hn1 c hcap (Nat.le_refl _)); clear HS1
    rw [if_neg hc1] at HS2
    have hb3 : 1 ≤ c := by omega
    go_wp2_with (at_builtin; refine wpList_append_src rfl (.tmp 15) (.tmp 18) 23 rfl w0.heap.size 9 i0 (.string ByteArray.empty) 16 Try.underlying23 hi hz0 hz1 hz2 rfl _ 0 [] rfl O1.out (some (ad.add 1)) (n - 1) _ L rfl (by simpa using HS2.out) (by unfold maxLen; omega) (by omega) B1.out.size ?_; intro v1 w1 hown hgrow; have B2 := Lib.hid (below_own B1.out O1.out B1.out.size hgrow); have hO2 : w1.ownsRow w0.heap.size 9 1 v1 (n - 1) (strs L) := (by simpa using hown); obtain ⟨A2, c2, hv2, hS2⟩ := Sl.own hO2; clear hown hgrow hO2; subst hv2; have HS3 := Lib.hid hS2; have HA2 := Lib.hid (HA.out.below B2.out HA.out.lt); have HR2 := Lib.hid (HR.out.below B2.out HR.out.lt); clear hS2; cases Rw3.row HA2.out; cases Rw3.row HR2.out)
    have HRx := Lib.hid (HR2.out.far (p := ⟨w.heap.size, 2, none⟩) (by simp) (.slice A2 (n - 1) c2))
    (try simp only [Exit.inBlock, Exit.then]); refine bodyPost_ret (results_row3 rfl _ _ (w.heap.size + 1) 32 _ (0, 0) _ rfl (Rw3.blk_set HRx.out _ _ _) Try.underlying32 rfl info_rw) rfl ?_
    exact ⟨A2, c2, rfl, (HS3.out.set1 HA2.out 2 _).set3 HRx.out _ _ _, Rw3.below_set ((HB.out.trans (B2.out.mono HB.out.size)).setCell (p := ⟨w.heap.size, 2, none⟩) (Nat.le_refl _) _) (by omega) _ _ _⟩

end Go.Proofs.Ytaolhjmmgippmaa.Wr
