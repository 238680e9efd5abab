/-
  Event: the document's Close.
-/
import Derived.Test.YtphndajaehofoaaDoorEvE
namespace Go.Proofs.YtphndajaehofoaaDoor.Ev
open Go.RowKit Go.Proofs.YtphndajaehofoaaDoor.Bt Go.Proofs.YtphndajaehofoaaDoor.Mm Go.Proofs.YtphndajaehofoaaDoor.Fl Go.Proofs.YtphndajaehofoaaDoor.Lw Go.Proofs.YtphndajaehofoaaDoor.Tg Go.Proofs.YtphndajaehofoaaDoor.Oa Go.Proofs.YtphndajaehofoaaDoor.Op
set_option linter.unusedVariables false
set_option linter.unusedSimpArgs false

/-- an event's cells at an address -/
structure AtE (w : World) (p : Addr) (k a b c : Nat) (s : ByteArray) : Prop where
  lt : p.block < w.heap.size
  c0 : w.cell? p = some (.int .u8 (k : Int))
  c1 : w.cell? ⟨p.block, p.off + 1, none⟩ = some (.int .u8 (a : Int))
  c2 : w.cell? ⟨p.block, p.off + 2, none⟩ = some (.int .u8 (b : Int))
  c3 : w.cell? ⟨p.block, p.off + 3, none⟩ = some (.int .u8 (c : Int))
  c4 : w.cell? ⟨p.block, p.off + 4, none⟩ = some (.string s)
theorem AtE.kept {w w' : World} {p : Addr} {k a b c : Nat} {s : ByteArray} (h : AtE w p k a b c s) (hs : w.heap.size ≤ w'.heap.size) (hk : ∀ q : Addr, q.block = p.block → w'.cell? q = w.cell? q) : AtE w' p k a b c s :=
  ⟨Nat.lt_of_lt_of_le h.lt hs, (hk p rfl).trans h.c0, (hk ⟨p.block, p.off + 1, none⟩ rfl).trans h.c1, (hk ⟨p.block, p.off + 2, none⟩ rfl).trans h.c2, (hk ⟨p.block, p.off + 3, none⟩ rfl).trans h.c3, (hk ⟨p.block, p.off + 4, none⟩ rfl).trans h.c4⟩
theorem AtE.drew {w : World} {p : Addr} {k a b c : Nat} {s : ByteArray} (h : AtE w p k a b c s) : AtE w.drew p k a b c s := ⟨h.lt, h.c0, h.c1, h.c2, h.c3, h.c4⟩
theorem AtE.below {w w' : World} {p : Addr} {k a b c : Nat} {s : ByteArray} {B : Nat} (h : AtE w p k a b c s) (hb : Below B w w') (hp : p.block < B) : AtE w' p k a b c s := h.kept hb.size (fun q hq => hb.cell (by omega))
theorem AtE.keeps (p : Addr) (k a b c : Nat) (s : ByteArray) : Rg.Keeps (fun w => AtE w p k a b c s) := fun _ _ hs hb => hs.below hb hs.lt
theorem cell_grown {w w' : World} {row : Option Nat} (hg : w.grownBy w' row) (q : Addr) (hl : q.block < w.heap.size) (hr : some q.block ≠ row) : w'.cell? q = w.cell? q := by
  unfold World.cell?
  rw [hg.block q.block hl hr]
theorem AtE.grown {w w' : World} {p : Addr} {k a b c : Nat} {s : ByteArray} {row : Option Nat} (h : AtE w p k a b c s) (hg : w.grownBy w' row) (hr : some p.block ≠ row) : AtE w' p k a b c s :=
  h.kept hg.size (fun q hq => cell_grown hg q (by rw [hq]; exact h.lt) (by rw [hq]; exact hr))
theorem at_event {w : World} {B : Nat} {A : Option Addr} {l : List Ev} (h : Rd w B A (eventCells l)) (hB : B ≤ w.heap.size) {i : Nat} (hi : i < l.length) :
    ∃ ad : Addr, A = some ad ∧ ad.block < B ∧ AtE w (ad.add (i * 5)) l[i].1 l[i].2.1 l[i].2.2.1 l[i].2.2.2.1 l[i].2.2.2.2 := by
  obtain ⟨ad, e1, e2, e3, e4, e5, e6, e7⟩ := rd_event h hi
  exact ⟨ad, e1, e2, by rw [block_add]; omega, e3, e4, e5, e6, e7⟩
theorem info_u8e : (Tryd.prog.info? 5).map (fun i => (i.zero, i.size, i.bytes)) = some (some (.int .u8 0), 1, 1) := by kernel_rfl
theorem head_vals (k a b c n : Nat) (hk : k < 256) (ha : a < 256) (hb : b < 256) (hc : c < 256) (hn : n < 65536) : byteVals (headE k a b c n) = [.int .u8 (k : Int), .int .u8 (a : Int), .int .u8 (b : Int), .int .u8 (c : Int), .int .u8 ((n / 256 : Nat) : Int), .int .u8 ((n % 256 : Nat) : Int)] := by
  have h5 : n / 256 < 256 := by omega
  simp [byteVals, headE, Nat.mod_eq_of_lt hk, Nat.mod_eq_of_lt ha, Nat.mod_eq_of_lt hb, Nat.mod_eq_of_lt hc, Nat.mod_eq_of_lt h5]
theorem byteVals_app (a b : List UInt8) : byteVals (a ++ b) = byteVals a ++ byteVals b := by simp [byteVals]
theorem conv_bytes (w : World) (s : ByteArray) : ∃ cap w5, (convert 9 46 (.string s)).run Tryd.prog w = .ok (.slice (some ⟨w.heap.size, 0, none⟩) s.size cap) w5 ∧ (∀ j u, (byteVals s.data.toList)[j]? = some u → w5.cell? ((Addr.mk w.heap.size 0 none).add j) = some u) ∧ Below w.heap.size w w5 := by
  refine ⟨_, _, run_bytes_of_string (P := Tryd.prog) w 9 46 5 s Tryd.underlying9 Tryd.underlying46 Tryd.underlying5, fun j u hu => ?_, ((Below.refl w.heap.size w).drew).alloc (Nat.le_refl _) _⟩
  have hj : j < s.data.size := by
    have := (List.getElem?_eq_some_iff.1 hu).1
    simpa [byteVals] using this
  rw [add_zero_block, cell_of_row _ w.heap.size j _ _ _ (heap_alloc_new w.drew _), bytesRow_at _ _ _ hj]
  simp [byteVals] at hu
  obtain ⟨z, hz, rfl⟩ := hu
  rw [Array.getElem?_eq_getElem hj] at hz
  injection hz with hz
  rw [hz]
theorem byteVals_len (s : ByteArray) : (byteVals s.data.toList).length = s.size * 1 := by rw [Nat.mul_one, byteVals, List.length_map, size_list]
theorem byteVals_one (l : List UInt8) : ∀ u ∈ byteVals l, u.oneCell' = true := by
  intro u hu
  obtain ⟨z, _, rfl⟩ := List.mem_map.1 hu
  rfl
theorem own_grown {w w' : World} {base : Nat} {e : TypeId} {size n : Nat} {v : Value} {xs : List Value} {B : Nat} {w0 : World} (hb : Below B w0 w) (h : w.ownsRow base e size v n xs) (hB : B ≤ base) (hs : B ≤ w.heap.size) (hg : w.grownBy w' v.ownBlock) : Below B w0 w' := hb.grown hg hs (fun k hk => Nat.le_trans hB (h.lt k hk).1)

set_option maxRecDepth 100000 in
set_option maxHeartbeats 2000000 in
theorem rclose_at {bs : List UInt8} {n : Nat} (l : List Ev) (A : Option Addr) (cp : Nat) (w : World) (h : closeE l = (bs, n)) (hA : Rd w w.heap.size A (eventCells l)) (hok : ∀ q ∈ l, okE q) (hm : l.length ≤ 60) :
    Calls Tryd.prog 11 #[.slice A l.length cp] w fun e w' => e = .returned (.tuple #[.string ⟨bs.toArray⟩, .int .i64 (n : Int)]) ∧ Below w.heap.size w w' := by
  have HA := Lib.hid hA; clear hA
  have HO := Lib.hid hok; clear hok
  obtain ⟨i0, hi, hz0, hz1, hz2⟩ := info_parts info_u8e
  have HI := Lib.hid hi; clear hi
  have H1 : Hid (∀ f, faults l = f → f ≠ 0 → bs = [] ∧ n = f) := Lib.hid (by
    intro f hf h0
    unfold closeE at h
    rw [if_neg (by omega)] at h
    simp only [Prod.mk.injEq] at h
    exact ⟨h.1.symm, by omega⟩)
  have H3 : Hid (faults l = 0 → bs = l.flatMap bytesE ∧ n = 0) := Lib.hid (by
    intro hf
    unfold closeE at h
    rw [if_pos hf, if_neg (by omega)] at h
    simp only [Prod.mk.injEq] at h
    exact ⟨h.1.symm, h.2.symm⟩)
  have hd : decide ((10000 : Int) < (l.length : Int)) = false := by simp; omega
  clear h
  go_enter Tryd.func11, Tryd.ntmps11
  go_wp2
  go_loopw [4, 5] (fun v i wr => ∃ (k m : Nat) (pre : List UInt8), k ≤ l.length ∧ i = .int .i64 k ∧ faults l = faults (l.drop k) ∧ (l.take k).flatMap bytesE = pre ∧ pre.length = m ∧ m ≤ 1606 * k ∧ wr.ownsRow w.heap.size 5 1 v m (byteVals pre) ∧ Below w.heap.size w wr) (fun _ i _ => l.length - (intOf i).toNat)
  case atStart => exact ⟨0, 0, [], Nat.zero_le _, rfl, rfl, rfl, rfl, Nat.le_refl _, World.ownsRow_nil w _ _ 1, Below.refl _ _⟩
  case round =>
    obtain ⟨k, m, pre, hk, rfl, hf, hpre, hpm, hmk, how, hb⟩ := hrel
    have HB := Lib.hid hb; clear hb
    have HF := Lib.hid hf; clear hf
    have HW := Lib.hid how; clear how
    have HPR := Lib.hid hpre; clear hpre
    have HPM := Lib.hid hpm; clear hpm
    by_cases hlt : k < l.length
    · have hi2 : 0 ≤ (k : Int) ∧ (k : Int) < (l.length : Int) := by omega
      obtain ⟨ad, hAd, hbl, hat⟩ := at_event (HA.out.below HB.out) HB.out.size hlt
      subst hAd
      have hF2 := faults_drop l k hlt
      have hT2 := take_bytes l k hlt
      have ho := HO.out _ (List.getElem_mem hlt)
      obtain ⟨q, hq⟩ : ∃ q, q = l[k] := ⟨_, rfl⟩
      rw [← hq] at hat hF2 ho hT2
      clear hq
      obtain ⟨kd, a, b, c, s⟩ := q
      obtain ⟨o1, o2, o3, o4, o5⟩ := ho
      dsimp only at hat o1 o2 o3 o4 o5
      have HF2 := Lib.hid hF2; clear hF2
      rw [HPR.out] at hT2
      have HT2 := Lib.hid hT2; clear hT2
      have HAT := Lib.hid hat; clear hat
      by_cases h7 : 7 < kd
      · have d7 : decide ((7 : Int) < (kd : Int)) = true := by simp; omega
        have hfe : faultE (kd, a, b, c, s) = 10 := by unfold faultE; rw [if_pos h7]
        obtain ⟨rfl, rfl⟩ := H1.out 10 (HF.out.trans (by rw [HF2.out, hfe]; rfl)) (by decide)
        have c0 := HAT.out.c0
        clear h7 hfe
        go_wp2
        go_ret2
        exact ⟨rfl, HB.out⟩
      have d7 : decide ((7 : Int) < (kd : Int)) = false := by simp; omega
      by_cases h16 : 1600 < s.size
      · have d16 : decide ((1600 : Int) < (s.size : Int)) = true := by simp; omega
        have hfe : faultE (kd, a, b, c, s) = 2 := by unfold faultE; rw [if_neg h7, if_pos h16]
        obtain ⟨rfl, rfl⟩ := H1.out 2 (HF.out.trans (by rw [HF2.out, hfe]; rfl)) (by decide)
        have c0 := HAT.out.c0
        have c4 := HAT.out.c4
        clear h7 h16 hfe
        go_wp2
        go_ret2
        exact ⟨rfl, HB.out⟩
      have d16 : decide ((1600 : Int) < (s.size : Int)) = false := by simp; omega
      have hfe : faultE (kd, a, b, c, s) = 0 := by unfold faultE; rw [if_neg h7, if_neg h16]
      have HF3 := Lib.hid (HF.out.trans (by rw [HF2.out, if_pos hfe]) : faults l = faults (l.drop (k + 1)))
      clear hfe HF2 HF
      have hs16 : s.size ≤ 1600 := by omega
      clear h7 h16
      obtain ⟨x, hx⟩ : ∃ x, x = s.size / 256 := ⟨_, rfl⟩
      obtain ⟨y, hy⟩ : ∃ y, y = s.size % 256 := ⟨_, rfl⟩
      have t1 : (s.size : Int).tdiv 256 = (x : Int) := by rw [Int.tdiv_eq_ediv_of_nonneg (by omega)]; omega
      have t2 : (s.size : Int).tmod 256 = (y : Int) := by rw [Int.tmod_eq_emod_of_nonneg (by omega)]; omega
      have t3 : IntKind.u8.wrap (x : Int) = (x : Int) := IntWalk.u8_in _ ⟨by omega, by omega⟩
      have t4 : IntKind.u8.wrap (y : Int) = (y : Int) := IntWalk.u8_in _ ⟨by omega, by omega⟩
      have t5 : IntKind.i64.wrap (x : Int) = (x : Int) := IntWalk.i64_in _ ⟨by omega, by omega⟩
      have HBY : Hid (byteVals (pre ++ bytesE (kd, a, b, c, s)) = (byteVals pre ++ [.int .u8 (kd : Int), .int .u8 (a : Int), .int .u8 (b : Int), .int .u8 (c : Int), .int .u8 (x : Int), .int .u8 (y : Int)]) ++ byteVals s.data.toList) := Lib.hid (by
        show byteVals (pre ++ (headE kd a b c s.size ++ s.data.toList)) = _
        rw [byteVals_app, byteVals_app, head_vals kd a b c s.size o1 o2 o3 o4 (by omega), List.append_assoc, ← hx, ← hy])
      have HLN : Hid ((pre ++ bytesE (kd, a, b, c, s)).length = m + 6 + s.size) := Lib.hid (by
        have h6 : (headE kd a b c s.size).length = 6 := rfl
        show (pre ++ (headE kd a b c s.size ++ s.data.toList)).length = _
        rw [List.length_append, List.length_append, size_list, HPM.out, h6]; omega)
      clear hx hy o1 o2 o3 o4 o5
      have c0 := HAT.out.c0
      have c4 := HAT.out.c4
      go_upto_region 10 with (fail)
      clear c0 c4
      refine wp_region_held_drew (S := fun wx => AtE wx (ad.add (k * 5)) kd a b c s) (by kernel_rfl) HAT.out.drew (fun hHeld => ?_)
      have HBR := Lib.hid ((Below.refl wr.heap.size wr).drew)
      have KS := Lib.hid (AtE.keeps (ad.add (k * 5)) kd a b c s)
      have hwd : wr.heap.size ≤ wr.drew.heap.size := Nat.le_refl _
      generalize wr.drew = wd at hHeld HBR hwd ⊢

      refine Rg.tk 0 (v := ?_) ?_ ?_
      rotate_left
      · (intro wx hSx; go_simp; all_goals with_reducible rfl)
      simp only [Act.put, Rg.e1, Rg.e2, Rg.e3, Rg.e4, Rg.e5, Rg.e6]
      refine Rg.tk 1 (v := ?_) ?_ ?_
      rotate_left
      · (intro wx hSx; go_simp; all_goals with_reducible rfl)
      simp only [Act.put, Rg.e1, Rg.e2, Rg.e3, Rg.e4, Rg.e5, Rg.e6]
      refine Rg.tk 2 (v := ?_) ?_ ?_
      rotate_left
      · (intro wx hSx; go_simp; all_goals with_reducible rfl)
      simp only [Act.put, Rg.e1, Rg.e2, Rg.e3, Rg.e4, Rg.e5, Rg.e6]
      refine Rg.tk 3 (v := ?_) ?_ ?_
      rotate_left
      · (intro wx hSx; go_simp; all_goals with_reducible rfl)
      simp only [Act.put, Rg.e1, Rg.e2, Rg.e3, Rg.e4, Rg.e5, Rg.e6]
      refine Rg.tk 4 (v := ?_) ?_ ?_
      rotate_left
      · (intro wx hSx; go_simp; all_goals with_reducible rfl)
      simp only [Act.put, Rg.e1, Rg.e2, Rg.e3, Rg.e4, Rg.e5, Rg.e6]
      refine Rg.tk 5 (v := ?_) ?_ ?_
      rotate_left
      · intro wx hSx
        obtain ⟨_, c0, c1, c2, c3, c4⟩ := hSx; go_simp
        all_goals with_reducible rfl
      simp only [Act.put, Rg.e1, Rg.e2, Rg.e3, Rg.e4, Rg.e5, Rg.e6]
      refine Rg.tk 6 (v := ?_) ?_ ?_
      rotate_left
      · (intro wx hSx; go_simp; all_goals with_reducible rfl)
      simp only [Act.put, Rg.e1, Rg.e2, Rg.e3, Rg.e4, Rg.e5, Rg.e6]
      refine Rg.tk 7 (v := ?_) ?_ ?_
      rotate_left
      · (intro wx hSx; go_simp; all_goals with_reducible rfl)
      simp only [Act.put, Rg.e1, Rg.e2, Rg.e3, Rg.e4, Rg.e5, Rg.e6]
      refine Rg.tk 8 (v := ?_) ?_ ?_
      rotate_left
      · (intro wx hSx; go_simp; all_goals with_reducible rfl)
      simp only [Act.put, Rg.e1, Rg.e2, Rg.e3, Rg.e4, Rg.e5, Rg.e6]
      refine Rg.tk 9 (v := ?_) ?_ ?_
      rotate_left
      · (intro wx hSx; go_simp; all_goals with_reducible rfl)
      simp only [Act.put, Rg.e1, Rg.e2, Rg.e3, Rg.e4, Rg.e5, Rg.e6]
      refine Rg.tk 10 (v := ?_) ?_ ?_
      rotate_left
      · intro wx hSx
        obtain ⟨_, c0, c1, c2, c3, c4⟩ := hSx; go_simp
        all_goals with_reducible rfl
      simp only [Act.put, Rg.e1, Rg.e2, Rg.e3, Rg.e4, Rg.e5, Rg.e6]
      refine Rg.tk 11 (v := ?_) ?_ ?_
      rotate_left
      · (intro wx hSx; go_simp; all_goals with_reducible rfl)
      simp only [Act.put, Rg.e1, Rg.e2, Rg.e3, Rg.e4, Rg.e5, Rg.e6]
      refine Rg.tk 12 (v := ?_) ?_ ?_
      rotate_left
      · (intro wx hSx; go_simp; all_goals with_reducible rfl)
      simp only [Act.put, Rg.e1, Rg.e2, Rg.e3, Rg.e4, Rg.e5, Rg.e6]
      refine Rg.tk 13 (v := ?_) ?_ ?_
      rotate_left
      · (intro wx hSx; go_simp; all_goals with_reducible rfl)
      simp only [Act.put, Rg.e1, Rg.e2, Rg.e3, Rg.e4, Rg.e5, Rg.e6]
      refine Rg.tk 14 (v := ?_) ?_ ?_
      rotate_left
      · (intro wx hSx; go_simp; all_goals with_reducible rfl)
      simp only [Act.put, Rg.e1, Rg.e2, Rg.e3, Rg.e4, Rg.e5, Rg.e6]
      refine Rg.tk 15 (v := ?_) ?_ ?_
      rotate_left
      · intro wx hSx
        obtain ⟨_, c0, c1, c2, c3, c4⟩ := hSx; go_simp
        all_goals with_reducible rfl
      simp only [Act.put, Rg.e1, Rg.e2, Rg.e3, Rg.e4, Rg.e5, Rg.e6]
      refine Rg.tk 16 (v := ?_) ?_ ?_
      rotate_left
      · (intro wx hSx; go_simp; all_goals with_reducible rfl)
      simp only [Act.put, Rg.e1, Rg.e2, Rg.e3, Rg.e4, Rg.e5, Rg.e6]
      refine Rg.tk 17 (v := ?_) ?_ ?_
      rotate_left
      · (intro wx hSx; go_simp; all_goals with_reducible rfl)
      simp only [Act.put, Rg.e1, Rg.e2, Rg.e3, Rg.e4, Rg.e5, Rg.e6]
      refine Rg.tk 18 (v := ?_) ?_ ?_
      rotate_left
      · (intro wx hSx; go_simp; all_goals with_reducible rfl)
      simp only [Act.put, Rg.e1, Rg.e2, Rg.e3, Rg.e4, Rg.e5, Rg.e6]
      refine Rg.tk 19 (v := ?_) ?_ ?_
      rotate_left
      · (intro wx hSx; go_simp; all_goals with_reducible rfl)
      simp only [Act.put, Rg.e1, Rg.e2, Rg.e3, Rg.e4, Rg.e5, Rg.e6]
      refine Rg.tk 20 (v := ?_) ?_ ?_
      rotate_left
      · intro wx hSx
        obtain ⟨_, c0, c1, c2, c3, c4⟩ := hSx; go_simp
        all_goals with_reducible rfl
      simp only [Act.put, Rg.e1, Rg.e2, Rg.e3, Rg.e4, Rg.e5, Rg.e6]
      refine Rg.tk 21 (v := ?_) ?_ ?_
      rotate_left
      · (intro wx hSx; go_simp; all_goals with_reducible rfl)
      simp only [Act.put, Rg.e1, Rg.e2, Rg.e3, Rg.e4, Rg.e5, Rg.e6]
      refine Rg.tk 22 (v := ?_) ?_ ?_
      rotate_left
      · (intro wx hSx; go_simp; all_goals with_reducible rfl)
      simp only [Act.put, Rg.e1, Rg.e2, Rg.e3, Rg.e4, Rg.e5, Rg.e6]
      refine Rg.tk 23 (v := ?_) ?_ ?_
      rotate_left
      · (intro wx hSx; go_simp; all_goals with_reducible rfl)
      simp only [Act.put, Rg.e1, Rg.e2, Rg.e3, Rg.e4, Rg.e5, Rg.e6]
      refine Rg.tk 24 (v := ?_) ?_ ?_
      rotate_left
      · (intro wx hSx; go_simp; all_goals with_reducible rfl)
      simp only [Act.put, Rg.e1, Rg.e2, Rg.e3, Rg.e4, Rg.e5, Rg.e6]
      refine Rg.tk 25 (v := ?_) ?_ ?_
      rotate_left
      · (intro wx hSx; go_simp; all_goals with_reducible rfl)
      simp only [Act.put, Rg.e1, Rg.e2, Rg.e3, Rg.e4, Rg.e5, Rg.e6]
      refine Rg.tk 26 (v := ?_) ?_ ?_
      rotate_left
      · (intro wx hSx; go_simp; all_goals with_reducible rfl)
      simp only [Act.put, Rg.e1, Rg.e2, Rg.e3, Rg.e4, Rg.e5, Rg.e6]
      refine wpAnyH_ready (rs := [27]) (by kernel_rfl) (by simp) ?_
      refine .cons (o := _) rfl (fun K hK => ?_) ?_
      · go_simp
        refine Rg.st_alloc hK hHeld KS.out HBR.out ?_
        clear hK K
        intro wr1 hlt hHeld ks hbr
        have HBR := Lib.hid hbr
        have KS := Lib.hid ks
        clear hbr ks hlt
        try simp only [Rg.e1, Rg.e2, Rg.e3]
        refine wpAnyH_ready (rs := [28]) (by kernel_rfl) (by simp) ?_
        refine .cons (o := _) rfl (fun K hK => ?_) ?_
        · refine step_append_lies _ rfl (.tmp 27) (.tmp 54) 46 rfl w.heap.size 5 i0 (.int .u8 0) 1 1 Tryd.underlying46 HI.out hz0 hz1 hz2 rfl (by decide) _ m _ rfl (own_below HW.out HBR.out) ⟨wd.heap.size, 0, none⟩ 6 6 [.int .u8 (kd : Int), .int .u8 (a : Int), .int .u8 (b : Int), .int .u8 (c : Int), .int .u8 (x : Int), .int .u8 (y : Int)] rfl rfl (World.news_of_block hHeld.2) (by simp [Value.oneCell']) (by decide) (by unfold maxLen; omega) (by omega) (Nat.le_trans HB.out.size HBR.out.size) _ rfl ?_
          intro gg cap wr2 hown hgrow hat2 hlt2
          simp only [Act.put, Rg.e1, Rg.e2, Rg.e3, Rg.e4, Rg.e5, Rg.e6]
          have hB2 := below_own (HB.out.trans (HBR.out.mono HB.out.size)) (own_below HW.out HBR.out) (Nat.le_trans HB.out.size HBR.out.size) hgrow
          refine Rg.st_same hK ⟨hHeld.1.grown hgrow (by intro e; have := (HW.out.lt _ e.symm).1; rw [block_add] at this; omega), hHeld.2.grown hgrow (by intro e; have := (HW.out.lt _ e.symm).2; omega)⟩ (fun hHeld => ?_)
          clear hK K HBR KS
          have HW2 := Lib.hid hown
          have HB2 := Lib.hid hB2
          clear hown hgrow hat2 hB2 hwd HW
          try simp only [Rg.e1, Rg.e2, Rg.e3]
          refine Rg.tk 29 (v := ?_) ?_ ?_
          rotate_left
          · (intro wx hSx; go_simp; all_goals with_reducible rfl)
          simp only [Act.put, Rg.e1, Rg.e2, Rg.e3, Rg.e4, Rg.e5, Rg.e6]
          refine wpAnyH_done (by kernel_rfl) ?_ _
          have c4 := hHeld.1.c4
          obtain ⟨cp2, w5, hcv, hcl, hb5⟩ := conv_bytes wr2 s
          have HCL := Lib.hid hcl; have HB5 := Lib.hid hb5
          clear hcl hb5
          go_wp2_with (at_builtin; refine wpList_append_own _ rfl (.tmp 56) (.tmp 62) 46 rfl w.heap.size 5 i0 (.int .u8 0) 1 1 Tryd.underlying46 HI.out hz0 hz1 hz2 rfl (by decide) _ (m + 6) _ rfl (own_below HW2.out HB5.out) ⟨wr2.heap.size, 0, none⟩ s.size cp2 (byteVals s.data.toList) rfl (byteVals_len s) HCL.out (byteVals_one _) (by unfold maxLen; omega) (by omega) (Nat.le_trans HB2.out.size HB5.out.size) ?_; intro v6 w6 hown6 hgrow6 _)
          have HB6 := Lib.hid (below_own (HB2.out.trans (HB5.out.mono HB2.out.size)) (own_below HW2.out HB5.out) (Nat.le_trans HB2.out.size HB5.out.size) hgrow6)
          have HW6 := Lib.hid hown6
          clear hown6 hgrow6 HW2 HB2 HB5 HCL hcv c4
          obtain ⟨R6, c6, rfl⟩ := own_slice HW6.out
          go_wp2
          go_roundw
          case rel => exact ⟨k + 1, m + 6 + s.size, pre ++ bytesE (kd, a, b, c, s), by omega, by go_num, HF3.out, HT2.out, HLN.out, by omega, by rw [HBY.out]; exact HW6.out, HB6.out⟩
          case measure => simp [intOf]; omega
        exact AllReadyH.nil
      exact AllReadyH.nil
    · have hz : faults l = 0 := by rw [HF.out, List.drop_eq_nil_of_le (by omega)]; rfl
      obtain ⟨hbs, rfl⟩ := H3.out hz
      have hkl : k = l.length := by omega
      have hpl : pre = bs := by rw [← HPR.out, hkl, List.take_length, hbs]
      obtain ⟨Rv, cv, rfl⟩ := own_slice HW.out
      have hcv := own_back (P := Tryd.prog) (src := 46) (dst := 9) HW.out Tryd.underlying46 Tryd.underlying5 Tryd.underlying9
      rw [hpl] at hcv
      clear hz hbs hpl
      go_wp2
      go_ret2
      exact ⟨rfl, HB.out⟩
end Go.Proofs.YtphndajaehofoaaDoor.Ev