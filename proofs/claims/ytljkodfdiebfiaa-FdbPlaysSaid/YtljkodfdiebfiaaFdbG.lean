/-
  Tables: rows held against each other; the sort of rows.
-/
import Derived.Test.YtljkodfdiebfiaaFdbF
namespace Go.Proofs.Ytljkodfdiebfiaa.Fd
open Go.RowKit Go.Maps Go.Sort Go.Proofs.Ytljkodfdiebfiaa.Mm Go.Proofs.Ytljkodfdiebfiaa.Tg

set_option linter.unusedSimpArgs false

/-- of w, there are draws and new blocks, nothing else -/
def Gq (w w' : World) : Prop := ∃ q os, w' = grow (w.drewN q) os
theorem Gq.refl (w : World) : Gq w w := ⟨0, #[], by rw [grow_empty]; rfl⟩
theorem Gq.drew {w w' : World} (h : Gq w w') : Gq w w'.drew := by
  obtain ⟨q, os, rfl⟩ := h
  exact ⟨q + 1, os, rfl⟩
theorem Gq.alloc {w w' : World} (h : Gq w w') (o : Obj) : Gq w (w'.alloc o) := by
  obtain ⟨q, os, rfl⟩ := h
  exact ⟨q, os ++ #[o], by rw [alloc_eq_grow, grow_grow]⟩
theorem st_more {P : Program} {ops : Array Oper} {Q : Exit → Act → World → Prop} {md : Region.Mode} {S : World → Prop} {fuel : Nat} {listed : Array Bool} {a : Act} {w : World} {K : Act → World → Prop} {cs : Array Value} {t : TypeId}
    (hK : Shut (∀ a w, S w → (S w → wpAnyH P md ops Q S fuel listed a w) → K a w)) (hS : S (w.alloc (.cells cs t)))
    (h : ∀ w', (S w' ∧ Blk w' w.heap.size t cs) → wpAnyH P md ops Q (fun wx => S wx ∧ Blk wx w.heap.size t cs) fuel listed a w') : K a (w.alloc (.cells cs t)) :=
  hK.out _ _ hS (fun hS' => Rg.more (fun _ h => h.1) _ _ _ _ (h _ ⟨hS', Blk.fresh _ _ _⟩))
theorem keep_s {w wx : World} {g k : Nat} {t : TypeId} {a b : Array Value} (h : Blk wx g t a ∧ Blk wx k t b ∧ Gq w wx) (o : Obj) : Blk (wx.alloc o) g t a ∧ Blk (wx.alloc o) k t b ∧ Gq w (wx.alloc o) := ⟨h.1.alloc o, h.2.1.alloc o, h.2.2.alloc o⟩

set_option maxRecDepth 100000 in
set_option maxHeartbeats 2000000 in
theorem by_at (v a v' a' : Nat) (p s p' s' c1 c2 c3 : Int) (w : World) (h1 : cmpN v v' = c1) (h2 : cmpN a a' = c2) (h3 : (if c1 = 0 then c2 else c1) = c3) :
    Calls Try.prog 18 #[.agg #[.int .u16 (v : Int), .int .u64 (a : Int), .int .i64 p, .int .i64 s], .agg #[.int .u16 (v' : Int), .int .u64 (a' : Int), .int .i64 p', .int .i64 s']] w fun e w' => e = .returned (.int .i64 c3) ∧ Gq w w' := by
  have HC1 := Lib.hid h1; have HC2 := Lib.hid h2; have HC3 := Lib.hid h3
  clear h1 h2 h3
  go_enter Try.func18, Try.ntmps18
  go_upto_region 1 with (fail)
  have HX := Lib.hid ((Blk.fresh w 57 #[.int .u16 (v : Int), .int .u64 (a : Int), .int .i64 p, .int .i64 s]).alloc (.cells #[.int .u16 (v' : Int), .int .u64 (a' : Int), .int .i64 p', .int .i64 s'] 57))
  have HY := Lib.hid (fresh_second w (.cells #[.int .u16 (v : Int), .int .u64 (a : Int), .int .i64 p, .int .i64 s] 57) 57 #[.int .u16 (v' : Int), .int .u64 (a' : Int), .int .i64 p', .int .i64 s'])
  have HQ := Lib.hid (((Gq.refl w).alloc (.cells #[.int .u16 (v : Int), .int .u64 (a : Int), .int .i64 p, .int .i64 s] 57)).alloc (.cells #[.int .u16 (v' : Int), .int .u64 (a' : Int), .int .i64 p', .int .i64 s'] 57))
  generalize (w.alloc (.cells #[.int .u16 (v : Int), .int .u64 (a : Int), .int .i64 p, .int .i64 s] 57)).alloc (.cells #[.int .u16 (v' : Int), .int .u64 (a' : Int), .int .i64 p', .int .i64 s'] 57) = w0 at HX HY HQ ⊢
  refine wp_region_held_drew (S := fun wx => Blk wx w.heap.size 57 #[.int .u16 (v : Int), .int .u64 (a : Int), .int .i64 p, .int .i64 s] ∧ Blk wx (w.heap.size + 1) 57 #[.int .u16 (v' : Int), .int .u64 (a' : Int), .int .i64 p', .int .i64 s'] ∧ Gq w wx) (by kernel_rfl) ⟨HX.out.drew, HY.out.drew, HQ.out.drew⟩ (fun hHeld => ?_)
  generalize w0.drew = wd at hHeld ⊢
  refine Rg.tk 0 (v := ?_) ?_ ?_
  rotate_left
  · (intro wx hSx; go_simp; all_goals with_reducible rfl)
  simp only [Act.put, Rg.e1, Rg.e2, Rg.e3, Rg.e4, Rg.e5, Rg.e6]
  refine Rg.tk 1 (v := ?_) ?_ ?_
  rotate_left
  · intro wx hSx
    cases Rw4.row hSx.1; cases Rw4.row hSx.2.1; go_simp
    all_goals with_reducible rfl
  simp only [Act.put, Rg.e1, Rg.e2, Rg.e3, Rg.e4, Rg.e5, Rg.e6]
  refine Rg.tk 2 (v := ?_) ?_ ?_
  rotate_left
  · (intro wx hSx; go_simp; all_goals with_reducible rfl)
  simp only [Act.put, Rg.e1, Rg.e2, Rg.e3, Rg.e4, Rg.e5, Rg.e6]
  refine Rg.tk 3 (v := ?_) ?_ ?_
  rotate_left
  · intro wx hSx
    cases Rw4.row hSx.1; cases Rw4.row hSx.2.1; go_simp
    all_goals with_reducible rfl
  simp only [Act.put, Rg.e1, Rg.e2, Rg.e3, Rg.e4, Rg.e5, Rg.e6]
  refine Rg.tk 5 (v := ?_) ?_ ?_
  rotate_left
  · (intro wx hSx; go_simp; all_goals with_reducible rfl)
  simp only [Act.put, Rg.e1, Rg.e2, Rg.e3, Rg.e4, Rg.e5, Rg.e6]
  refine Rg.tk 6 (v := ?_) ?_ ?_
  rotate_left
  · intro wx hSx
    cases Rw4.row hSx.1; cases Rw4.row hSx.2.1; go_simp
    all_goals with_reducible rfl
  simp only [Act.put, Rg.e1, Rg.e2, Rg.e3, Rg.e4, Rg.e5, Rg.e6]
  refine Rg.tk 7 (v := ?_) ?_ ?_
  rotate_left
  · (intro wx hSx; go_simp; all_goals with_reducible rfl)
  simp only [Act.put, Rg.e1, Rg.e2, Rg.e3, Rg.e4, Rg.e5, Rg.e6]
  refine Rg.tk 8 (v := ?_) ?_ ?_
  rotate_left
  · intro wx hSx
    cases Rw4.row hSx.1; cases Rw4.row hSx.2.1; go_simp
    all_goals with_reducible rfl
  simp only [Act.put, Rg.e1, Rg.e2, Rg.e3, Rg.e4, Rg.e5, Rg.e6]
  refine wpAnyH_ready (rs := [4]) (by kernel_rfl) (by simp) ?_
  refine .cons (o := _) rfl (fun K hK => ?_) ?_
  · go_simp
    refine (cmp_16 HC1.out _).mono ?_
    rintro e wd ⟨rfl, rfl⟩
    go_wp2_with fail
    refine Rg.st_same hK hHeld (fun hHeld => ?_)
    clear hK K
    try simp only [Rg.e1, Rg.e2, Rg.e3]
    refine wpAnyH_ready (rs := [9]) (by kernel_rfl) (by simp) ?_
    refine .cons (o := _) rfl (fun K hK => ?_) ?_
    · go_simp
      refine (cmp_64 HC2.out _).mono ?_
      rintro e wd ⟨rfl, rfl⟩
      go_wp2_with fail
      refine Rg.st_same hK hHeld (fun hHeld => ?_)
      clear hK K
      try simp only [Rg.e1, Rg.e2, Rg.e3]
      refine wpAnyH_ready (rs := [10]) (by kernel_rfl) (by simp) ?_
      refine .cons (o := _) rfl (fun K hK => ?_) ?_
      · go_simp
        refine st_more hK (keep_s hHeld _) ?_
        clear hK K
        intro wr3 hHeld
        try simp only [Rg.e1, Rg.e2, Rg.e3]
        refine wpAnyH_ready (rs := [11]) (by kernel_rfl) (by simp) ?_
        refine .cons (o := _) rfl (fun K hK => ?_) ?_
        · go_simp
          refine (or_any hHeld.2 HC3.out).mono ?_
          rintro e wr3 ⟨rfl, rfl⟩
          go_wp2_with fail
          refine Rg.st_same hK hHeld (fun hHeld => ?_)
          clear hK K
          try simp only [Rg.e1, Rg.e2, Rg.e3]
          refine Rg.tk 12 (v := ?_) ?_ ?_
          rotate_left
          · (intro wx hSx; go_simp; all_goals with_reducible rfl)
          simp only [Act.put, Rg.e1, Rg.e2, Rg.e3, Rg.e4, Rg.e5, Rg.e6]
          refine wpAnyH_done (by kernel_rfl) ?_ _
          go_wp2
          go_ret
          exact ⟨rfl, hHeld.1.2.2⟩
        exact AllReadyH.nil
      exact AllReadyH.nil
    exact AllReadyH.nil
  exact AllReadyH.nil

instance : Inhabited Fr := ⟨⟨0, 0, 0, 0⟩⟩
theorem lt_is (x y : Fr) : ltOf cmpR x y = decide (klt x y) := by
  rw [Bool.eq_iff_iff]
  unfold ltOf cmpR cmpN
  rw [decide_eq_true_iff, decide_eq_true_iff]
  unfold klt
  by_cases h1 : x.vlan < y.vlan
  · simp [h1]
  by_cases h2 : y.vlan < x.vlan
  · simp [h1, h2]; omega
  have e : x.vlan = y.vlan := by omega
  by_cases h3 : x.addr < y.addr
  · simp [e, h3]
  by_cases h4 : y.addr < x.addr
  · simp [e, h3, h4]
  · simp [e, h3, h4]
theorem swo : SWO (ltOf cmpR) where
  irrefl x := by rw [lt_is]; simp [klt]
  trans x y z h1 h2 := by rw [lt_is] at *; simp only [decide_eq_true_eq] at *; exact klt_trans h1 h2
  ntrans x y z h1 h2 := by rw [lt_is, decide_eq_false_iff_not] at h1 h2 ⊢; unfold klt at h1 h2 ⊢; omega
theorem sorted_is {d d' : Array Fr} {l : List Fr} (hp : PermIn 0 d.size d d') (hs : SortedIn (ltOf cmpR) 0 d.size d') (hd : d.toList.Perm l) (hr : Rising l) : d'.toList = l := by
  obtain ⟨h1, _, h3⟩ := hp
  have e1 : d'.extract 0 d.size = d' := by rw [← h1]; simp
  have e2 : d.extract 0 d.size = d := by simp
  rw [e1, e2] at h3
  have hpl : d'.toList.Perm l := h3.trans hd
  have hne : d'.toList.Pairwise (fun x y => ¬ ksame x y) := (hpl.pairwise_iff (fun {a b} (h : ¬ ksame a b) (k : ksame b a) => h ⟨k.1.symm, k.2.symm⟩)).2 (hr.imp (fun h => klt_ne h))
  refine same_rows ?_ hr (fun x => hpl.mem_iff)
  show List.Pairwise klt d'.toList
  rw [List.pairwise_iff_getElem] at hne ⊢
  intro i j hi hj hij
  have g1 := hs i j (Nat.zero_le _) hij (by rw [← h1]; simpa using hj)
  rw [lt_is, getElem!_pos d' j (by simpa using hj), getElem!_pos d' i (by simpa using hi)] at g1
  have g2 := hne i j hi hj hij
  simp only [decide_eq_false_iff_not, Array.getElem_toList] at g1 g2 ⊢
  rcases klt_or d'[i] d'[j] with k | k | k
  · exact k
  · exact absurd k g2
  · exact absurd k g1
theorem grown_sorted {w : World} {g n : Nat} {os : Array Obj} (d : Array Fr) : w.grownBy (sortWorldK e4 4 w g 0 n d os) (some g) := by
  unfold sortWorldK
  refine ⟨rfl, rfl, rfl, by simp [putRowK, putRow, mapBlock, Sort.ahead, grow], fun k hk hne => ?_⟩
  rw [heap_grow_old _ _ (by simpa [putRowK, putRow, mapBlock, Sort.ahead] using hk)]
  have : g ≠ k := fun e => hne (by rw [e])
  simp [putRowK, putRow, mapBlock, Sort.ahead, Array.getElem?_modify, this]
theorem lays (g n : Nat) (w : World) : CmpLays Try.prog 18 #[] e4 4 cmpR g 0 n w := fun _ _ _ _ x y => by_at x.vlan x.addr y.vlan y.addr x.port x.seen y.port y.seen _ _ _ _ rfl rfl rfl
theorem sort_any {w : World} {g cap : Nat} {d l : List Fr} (hd : d.Perm l) (hr : Rising l) (hb : HoldsK e4 4 w g 0 d.toArray) (hg : g < w.heap.size) (hn : d.length < 4611686018427387904) :
    Calls Try.prog 17 #[.slice (some ⟨g, 0, none⟩) d.length cap, .func (.func 18) #[] #[]] w fun e w' => e = .returned (.tuple #[]) ∧ HoldsK e4 4 w' g 0 l.toArray ∧ w.grownBy w' (some g) := by
  have eg : ∀ args w, (callFunc 18 args).run Try.prog w = .ok (.enter 18 args) w := enters_of Try.func18 (by kernel_rfl) rfl
  have hc := AnyQ.slices_SortFunc Try.sortT 4 Try.isAgg57 Try.sizeOf57 e4 e4_len e4_one cmpR swo 18 #[] g 0 cap d.toArray w eg (lays g _ w) hb hg (by simpa using hn)
  refine hc.mono ?_
  rintro e w' ⟨he, d', n, os, hp, hs, hw⟩
  have e1 := sorted_is hp hs hd hr
  refine ⟨he, ?_, by rw [hw]; exact grown_sorted _⟩
  have h2 := holdsK_sortWorldK_c e4 4 w g 0 d.toArray d' n os hb hg hp.1
  rw [hw, ← e1]
  exact h2

end Go.Proofs.Ytljkodfdiebfiaa.Fd
