/-
  Contract of the document's Open.
-/
import Derived.Test.YtomchhjemfldnaaTag7
namespace Go.Proofs.Ytomchhjemfldnaa.Tg
open Go.RowKit Go.Proofs.Ytomchhjemfldnaa.Bt Go.Proofs.Ytomchhjemfldnaa.Mm Go.Proofs.Ytomchhjemfldnaa.Fl Go.Proofs.Ytomchhjemfldnaa.Rf Go.Proofs.Ytomchhjemfldnaa.Hx Go.Proofs.Ytomchhjemfldnaa.Lw Go.Proofs.Ytomchhjemfldnaa.Mc

theorem get_i (s : ByteArray) (G : Int → Int → Int) (hG : ∀ a n : Nat, G (a : Int) (n : Int) = (getN s.data.toList a n : Nat)) (a n : Int) (w : World) (h0 : 0 ≤ a) (h1 : 1 ≤ n) (h8 : n ≤ 8) (h : a + n ≤ (s.size : Int)) (hs : s.size ≤ maxLen) :
    Calls Try.prog 21 #[.string s, .int .i64 a, .int .i64 n] w fun e w' => e = .returned (.int .u64 (G a n)) ∧ Below w.heap.size w w' := by
  obtain ⟨a, rfl⟩ := Int.eq_ofNat_of_zero_le h0
  obtain ⟨n, rfl⟩ := Int.eq_ofNat_of_zero_le (show 0 ≤ n by omega)
  rw [hG]
  exact get_any s a n w hs (by omega) (by omega) (by omega)

set_option maxRecDepth 100000 in
set_option maxHeartbeats 1000000 in
theorem ropen_short (s : ByteArray) (w : World) (hl : s.size < 18) :
    Calls Try.prog 11 #[.string s] w fun e w' => e = .returned (.tuple #[frV 0 0 0 false 0 0 ⟨#[]⟩, .int .i64 1]) ∧ Below w.heap.size w w' := by
  go_enter Try.func11, Try.ntmps11
  go_wp2
  (try simp only [Exit.inBlock, Exit.then]); refine bodyPost_ret (results_row2 rfl _ _ w.heap.size 34 _ (0, 0) _ rfl (Blk.fresh _ _ _) Try.underlying34 rfl info_rframe) rfl ?_
  exact ⟨rfl, (Below.refl w.heap.size w).alloc (Nat.le_refl _) _⟩
set_option maxRecDepth 100000 in
set_option maxHeartbeats 1000000 in
theorem ropen_long (s : ByteArray) (w : World) (hl : 1600 < s.size) (hs : s.size ≤ maxLen) :
    Calls Try.prog 11 #[.string s] w fun e w' => e = .returned (.tuple #[frV 0 0 0 false 0 0 ⟨#[]⟩, .int .i64 2]) ∧ Below w.heap.size w w' := by
  unfold maxLen at hs
  go_enter Try.func11, Try.ntmps11
  go_wp2
  (try simp only [Exit.inBlock, Exit.then]); refine bodyPost_ret (results_row2 rfl _ _ w.heap.size 34 _ (0, 0) _ rfl (Blk.fresh _ _ _) Try.underlying34 rfl info_rframe) rfl ?_
  exact ⟨rfl, (Below.refl w.heap.size w).alloc (Nat.le_refl _) _⟩
set_option maxRecDepth 100000 in
set_option maxHeartbeats 1000000 in
theorem ropen_tag (s : ByteArray) (w : World) (hl : 18 ≤ s.size) (hl2 : s.size ≤ 1600) (a b : Nat) (ha : (s[12]).toNat = a) (hb : (s[13]).toNat = b) (hab : ¬ (a = 129 ∧ b = 0)) :
    Calls Try.prog 11 #[.string s] w fun e w' => e = .returned (.tuple #[frV 0 0 0 false 0 0 ⟨#[]⟩, .int .i64 5]) ∧ Below w.heap.size w w' := by
  have hs1 : decide ((s.size : Int) < 18) = false := by simp; omega
  have hs2 : decide ((1600 : Int) < (s.size : Int)) = false := by simp; omega
  by_cases h : a = 129
  · have h1 : ((a : Int) != 129) = false := by simp; omega
    have h2 : ((b : Int) != 0) = true := by simp; omega
    clear hab h
    go_enter Try.func11, Try.ntmps11
    go_wp2
    (try simp only [Exit.inBlock, Exit.then]); refine bodyPost_ret (results_row2 rfl _ _ w.heap.size 34 _ (0, 0) _ rfl (Blk.fresh _ _ _) Try.underlying34 rfl info_rframe) rfl ?_
    exact ⟨rfl, (Below.refl w.heap.size w).alloc (Nat.le_refl _) _⟩
  · have h1 : ((a : Int) != 129) = true := by simp; omega
    clear hab h
    go_enter Try.func11, Try.ntmps11
    go_wp2
    (try simp only [Exit.inBlock, Exit.then]); refine bodyPost_ret (results_row2 rfl _ _ w.heap.size 34 _ (0, 0) _ rfl (Blk.fresh _ _ _) Try.underlying34 rfl info_rframe) rfl ?_
    exact ⟨rfl, (Below.refl w.heap.size w).alloc (Nat.le_refl _) _⟩

/-- what is known of the block of the answer -/
def St (w0 w : World) : Prop := Below w0.heap.size w0 w ∧ Blk w w0.heap.size 34 zeroCells
/-- what is known besides of the block of the frame, while nothing is written there -/
def Sx (w0 w : World) (g : Nat) : Prop := St w0 w ∧ w0.heap.size < g ∧ Blk w g 34 zeroCells
section
variable {w0 w w' : World} {g : Nat}
theorem st_be (h : St w0 w) (hb : Below w.heap.size w w') : St w0 w' := ⟨h.1.trans (hb.mono h.1.size), h.2.below hb h.2.lt⟩
theorem st_dr (h : St w0 w) : St w0 w.drew := ⟨h.1.drew, h.2.drew⟩
theorem st_al (h : St w0 w) (o : Obj) : St w0 (w.alloc o) := ⟨h.1.alloc h.1.size o, h.2.alloc o⟩
theorem sx_new (h : St w0 w) : Sx w0 (w.alloc (.cells zeroCells 34)) w.heap.size := ⟨st_al h _, h.2.lt, Blk.fresh _ _ _⟩
theorem sx_be (h : Sx w0 w g) (hb : Below w.heap.size w w') : Sx w0 w' g := ⟨st_be h.1 hb, h.2.1, h.2.2.below hb h.2.2.lt⟩
theorem sx_dr (h : Sx w0 w g) : Sx w0 w.drew g := ⟨st_dr h.1, h.2.1, h.2.2.drew⟩
theorem far7 {t : TypeId} {cs : Array Value} {k : Nat} (h : Blk w k t cs) (hne : k ≠ g) (x0 x1 x2 x3 x4 x5 x6 : Value) : Blk (set7 w g x0 x1 x2 x3 x4 x5 x6) k t cs :=
  ((((((h.far (p := ⟨g, 0, none⟩) hne x0).far (p := ⟨g, 1, none⟩) hne x1).far (p := ⟨g, 2, none⟩) hne x2).far (p := ⟨g, 3, none⟩) hne x3).far (p := ⟨g, 4, none⟩) hne x4).far (p := ⟨g, 5, none⟩) hne x5).far (p := ⟨g, 6, none⟩) hne x6
/-- what the cut says -/
def Cut7 (w0 w : World) (s : Value) (x0 x1 x2 x3 x4 x5 x6 : Value) : Prop := ∃ g : Nat, s = .pointer (some ⟨g, 0, none⟩) ∧ Blk w g 34 #[x0, x1, x2, x3, x4, x5, x6] ∧ St w0 w
theorem cut_set (h : Sx w0 w g) (x0 x1 x2 x3 x4 x5 x6 : Value) : Cut7 w0 (set7 w g x0 x1 x2 x3 x4 x5 x6) (.pointer (some ⟨g, 0, none⟩)) x0 x1 x2 x3 x4 x5 x6 :=
  ⟨g, rfl, blk_set7 h.2.2 _ _ _ _ _ _ _, below_set7 h.1.1 (Nat.le_of_lt h.2.1) _ _ _ _ _ _ _, far7 h.1.2 (Nat.ne_of_lt h.2.1) _ _ _ _ _ _ _⟩
theorem cut_new (h : St w0 w) (x0 x1 x2 x3 x4 x5 x6 : Value) : Cut7 w0 (w.alloc (.cells #[x0, x1, x2, x3, x4, x5, x6] 34)) (.pointer (some ⟨w.heap.size, 0, none⟩)) x0 x1 x2 x3 x4 x5 x6 :=
  ⟨_, rfl, Blk.fresh _ _ _, st_al h _⟩
theorem cut_dr {s x0 x1 x2 x3 x4 x5 x6 : Value} (h : Cut7 w0 w s x0 x1 x2 x3 x4 x5 x6) : Cut7 w0 w.drew s x0 x1 x2 x3 x4 x5 x6 := by
  obtain ⟨g, e, hb, hs⟩ := h
  exact ⟨g, e, hb.drew, st_dr hs⟩
end

set_option maxRecDepth 100000 in
set_option maxHeartbeats 1000000 in
theorem ropen_rest (s body : ByteArray) (w : World) (d sr n p b v t k : Nat) (dr gb : Bool) (G : Int → Int → Int) (hl : 18 ≤ s.size) (hl2 : s.size ≤ 1600) (ha : (s[12]).toNat = 129) (hb : (s[13]).toNat = 0)
    (hG : ∀ a n : Nat, G (a : Int) (n : Int) = (getN s.data.toList a n : Nat)) (g1 : G 14 2 = (n : Int)) (g2 : G 0 6 = (d : Int)) (g3 : G 6 6 = (sr : Int)) (g4 : G 16 2 = (t : Int)) (hn : n < 65536) (ht : t < 65536) (hsr : sr < 281474976710656)
    (hp : n / 8192 = p) (hbb : n / 4096 % 2 = b) (hv : n % 4096 = v) (hdr : ((b : Int) == 1) = dr) (hbody : s.extract 18 s.size = body) (hgb : groupB sr = gb)
    (hk : k = if gb = true then 3 else if v = 0 ∨ v = 4095 then 4 else if t < 1536 then 6 else 0) (R : Value) (hR : R = if k = 0 then frV d sr p dr v t body else frV 0 0 0 false 0 0 ⟨#[]⟩) :
    Calls Try.prog 11 #[.string s] w fun e w' => e = .returned (.tuple #[R, .int .i64 (k : Int)]) ∧ Below w.heap.size w w' := by
  have hs1 : decide ((s.size : Int) < 18) = false := by simp; omega
  have hs2 : decide ((1600 : Int) < (s.size : Int)) = false := by simp; omega
  have h18 : (18 : Int) ≤ (s.size : Int) := by omega
  have hsm : s.size ≤ maxLen := by unfold maxLen; omega
  have HSM := Lib.hid hsm; clear hsm
  have HG := Lib.hid hG; clear hG
  have HR := Lib.hid hR; clear hR
  have HKK := Lib.hid hk; clear hk
  have HGB := Lib.hid hgb; clear hgb
  have p8 : p < 8 := by omega
  have v12 : v < 4096 := by omega
  have t1 : (n : Int).tdiv 8192 = (p : Int) := by rw [Int.tdiv_eq_ediv_of_nonneg (by omega)]; omega
  obtain ⟨x, hx⟩ : ∃ x, n / 4096 = x := ⟨_, rfl⟩
  have t2 : (n : Int).tdiv 4096 = (x : Int) := by rw [Int.tdiv_eq_ediv_of_nonneg (by omega)]; omega
  have t3 : (x : Int).tmod 2 = (b : Int) := by rw [Int.tmod_eq_emod_of_nonneg (by omega)]; omega
  have t4 : (n : Int).tmod 4096 = (v : Int) := by rw [Int.tmod_eq_emod_of_nonneg (by omega)]; omega
  have qq1 : IntKind.u64.wrap (p : Int) = (p : Int) := IntWalk.u64_in _ ⟨by omega, by omega⟩
  have qq2 : IntKind.u64.wrap (x : Int) = (x : Int) := IntWalk.u64_in _ ⟨by omega, by omega⟩
  have qq3 : IntKind.u64.wrap (b : Int) = (b : Int) := IntWalk.u64_in _ ⟨by omega, by omega⟩
  have qq4 : IntKind.u64.wrap (v : Int) = (v : Int) := IntWalk.u64_in _ ⟨by omega, by omega⟩
  have qq5 : IntKind.u8.wrap (p : Int) = (p : Int) := IntWalk.u8_in _ ⟨by omega, by omega⟩
  have qq6 : IntKind.u16.wrap (v : Int) = (v : Int) := IntWalk.u16_in _ ⟨by omega, by omega⟩
  have qq7 : IntKind.u16.wrap (t : Int) = (t : Int) := IntWalk.u16_in _ ⟨by omega, by omega⟩
  clear hp hbb hv hx
  go_enter Try.func11, Try.ntmps11
  go_wp2_with fail
  refine (get_i s G HG.out _ _ _ (by omega) (by omega) (by omega) (by omega) HSM.out).mono ?_
  rintro e w1 ⟨rfl, hb1⟩
  have HT := Lib.hid (st_be (w := w.alloc (.cells zeroCells 34)) ⟨(Below.refl w.heap.size w).alloc (Nat.le_refl _) _, Blk.fresh _ _ _⟩ hb1)
  clear hb1
  go_upto_region 8 with (fail)
  go_cut [5] (fun s5 wx => Cut7 w wx s5 (.int .u64 (d : Int)) (.int .u64 (sr : Int)) (.int .u8 (p : Int)) (.bool dr) (.int .u16 (v : Int)) (.int .u16 (t : Int)) (.string body))
  case first =>
    go_region_held3 (fun _ => True) (first | trivial)
      (first | (go_at_call 21; refine (get_i s G HG.out _ _ _ (by omega) (by omega) (by omega) (by omega) HSM.out).mono ?_; rintro e w1 ⟨rfl, hb1⟩; (first | (have HQ := Lib.hid (sx_be HQ.out hb1); obtain ⟨m0, m1, m2, m3, m4, m5, m6, l0, l1, l2, l3, l4, l5, l6⟩ := row7 HQ.out.2.2) | (have HQ := Lib.hid (sx_be (sx_dr HQ.out) hb1); obtain ⟨m0, m1, m2, m3, m4, m5, m6, l0, l1, l2, l3, l4, l5, l6⟩ := row7 HQ.out.2.2) | (have HQ := Lib.hid (sx_be (sx_new HT.out) hb1); obtain ⟨m0, m1, m2, m3, m4, m5, m6, l0, l1, l2, l3, l4, l5, l6⟩ := row7 HQ.out.2.2) | (have HQ := Lib.hid (sx_be (sx_dr (sx_new HT.out)) hb1); obtain ⟨m0, m1, m2, m3, m4, m5, m6, l0, l1, l2, l3, l4, l5, l6⟩ := row7 HQ.out.2.2) | (have HQ := Lib.hid (sx_be (sx_new (st_dr HT.out)) hb1); obtain ⟨m0, m1, m2, m3, m4, m5, m6, l0, l1, l2, l3, l4, l5, l6⟩ := row7 HQ.out.2.2) | skip); (first | have HT := Lib.hid (st_be HT.out hb1) | have HT := Lib.hid (st_be (st_dr HT.out) hb1) | skip); clear hb1))
    all_goals go_wp2_with fail
    all_goals go_meet
    all_goals first | exact cut_set HQ.out _ _ _ _ _ _ _ | exact cut_new HT.out _ _ _ _ _ _ _ | exact cut_dr (cut_new HT.out _ _ _ _ _ _ _)
  case rest =>
    obtain ⟨g, rfl, hx, htt⟩ := hcut
    have HX := Lib.hid hx; clear hx
    have HTc := Lib.hid htt; clear htt HT
    obtain ⟨c0, c1, c2, c3, c4, c5, c6, z0, z1, z2, z3, z4, z5, z6⟩ := row7 HTc.out.2
    obtain ⟨j0, j1, j2, j3, j4, j5, j6, _⟩ := row7 HX.out
    clear t1 t2 t3 t4 qq1 qq2 qq3 qq4 qq5 qq6 qq7 g1 g2 g3 g4 hdr hbody ha hb
    go_wp2_with fail
    refine (rgroup_b gb sr _ HGB.out (by omega)).mono ?_
    rintro e w2 ⟨rfl, rfl⟩
    cases gb with
    | true =>
      have HK3 := Lib.hid (show k = 3 by rw [HKK.out]; rfl)
      have HR3 := Lib.hid (show R = frV 0 0 0 false 0 0 ⟨#[]⟩ by rw [HR.out, HK3.out]; rfl)
      go_wp2
      (try simp only [Exit.inBlock, Exit.then]); refine bodyPost_ret (results_row2 rfl _ _ w.heap.size 34 _ (0, 0) _ rfl (blk_set7 HTc.out.2 _ _ _ _ _ _ _) Try.underlying34 rfl info_rframe) rfl ?_
      exact ⟨by rw [HK3.out, HR3.out]; rfl, below_set7 HTc.out.1 (Nat.le_refl _) _ _ _ _ _ _ _⟩
    | false =>
      by_cases v0 : v = 0
      · have HK3 := Lib.hid (show k = 4 by rw [HKK.out, if_neg (by simp), if_pos (.inl v0)])
        have HR3 := Lib.hid (show R = frV 0 0 0 false 0 0 ⟨#[]⟩ by rw [HR.out, HK3.out]; rfl)
        have y1 : ((v : Int) == 0) = true := by simp [v0]
        clear v0
        go_wp2
        (try simp only [Exit.inBlock, Exit.then]); refine bodyPost_ret (results_row2 rfl _ _ w.heap.size 34 _ (0, 0) _ rfl (blk_set7 HTc.out.2 _ _ _ _ _ _ _) Try.underlying34 rfl info_rframe) rfl ?_
        exact ⟨by rw [HK3.out, HR3.out]; rfl, below_set7 HTc.out.1 (Nat.le_refl _) _ _ _ _ _ _ _⟩
      have y1 : ((v : Int) == 0) = false := by simp [v0]
      by_cases v1 : v = 4095
      · have HK3 := Lib.hid (show k = 4 by rw [HKK.out, if_neg (by simp), if_pos (.inr v1)])
        have HR3 := Lib.hid (show R = frV 0 0 0 false 0 0 ⟨#[]⟩ by rw [HR.out, HK3.out]; rfl)
        have y2 : ((v : Int) == 4095) = true := by simp [v1]
        clear v0 v1
        go_wp2
        (try simp only [Exit.inBlock, Exit.then]); refine bodyPost_ret (results_row2 rfl _ _ w.heap.size 34 _ (0, 0) _ rfl (blk_set7 HTc.out.2 _ _ _ _ _ _ _) Try.underlying34 rfl info_rframe) rfl ?_
        exact ⟨by rw [HK3.out, HR3.out]; rfl, below_set7 HTc.out.1 (Nat.le_refl _) _ _ _ _ _ _ _⟩
      have y2 : ((v : Int) == 4095) = false := by simp; omega
      have HV := Lib.hid (show ¬ (v = 0 ∨ v = 4095) by omega)
      clear v0 v1
      by_cases v2 : t < 1536
      · have HK3 := Lib.hid (show k = 6 by rw [HKK.out, if_neg (by simp), if_neg HV.out, if_pos v2])
        have HR3 := Lib.hid (show R = frV 0 0 0 false 0 0 ⟨#[]⟩ by rw [HR.out, HK3.out]; rfl)
        go_wp2
        (try simp only [Exit.inBlock, Exit.then]); refine bodyPost_ret (results_row2 rfl _ _ w.heap.size 34 _ (0, 0) _ rfl (blk_set7 HTc.out.2 _ _ _ _ _ _ _) Try.underlying34 rfl info_rframe) rfl ?_
        exact ⟨by rw [HK3.out, HR3.out]; rfl, below_set7 HTc.out.1 (Nat.le_refl _) _ _ _ _ _ _ _⟩
      · have HK3 := Lib.hid (show k = 0 by rw [HKK.out, if_neg (by simp), if_neg HV.out, if_neg v2])
        have HR3 := Lib.hid (show R = frV d sr p dr v t body by rw [HR.out, if_pos HK3.out])
        go_wp2
        (try simp only [Exit.inBlock, Exit.then]); refine bodyPost_ret (results_row2 rfl _ _ w.heap.size 34 _ (0, 0) _ rfl (blk_set7 HTc.out.2 _ _ _ _ _ _ _) Try.underlying34 rfl info_rframe) rfl ?_
        exact ⟨by rw [HK3.out, HR3.out]; rfl, below_set7 HTc.out.1 (Nat.le_refl _) _ _ _ _ _ _ _⟩

theorem ropen_at {f : Fr} {k : Nat} (s : ByteArray) (w : World) (h : openT s.data.toList = (f, k)) (hs : s.size ≤ maxLen) :
    Calls Try.prog 11 #[.string s] w fun e w' => e = .returned (.tuple #[valF f, .int .i64 (k : Int)]) ∧ Below w.heap.size w w' := by
  have hsl := size_list s
  unfold openT at h
  rw [hsl] at h
  by_cases h1 : s.size < 18
  · rw [if_pos h1] at h
    simp only [Prod.mk.injEq] at h
    obtain ⟨rfl, rfl⟩ := h
    exact ropen_short s w h1
  rw [if_neg h1] at h
  obtain ⟨b0, b1, b2, b3, b4⟩ := frame_bounds s.data.toList
  by_cases h2 : 1600 < s.size
  · rw [if_pos h2] at h
    simp only [Prod.mk.injEq] at h
    obtain ⟨rfl, rfl⟩ := h
    exact ropen_long s w h2 hs
  rw [if_neg h2] at h
  have hd : (s.data.toList.drop 12).take 2 = [s[12], s[13]] := by
    rw [List.drop_eq_getElem_cons (by omega), List.drop_eq_getElem_cons (by omega)]
    rfl
  by_cases h3 : (s[12]).toNat = 129 ∧ (s[13]).toNat = 0
  · have h3' : (s.data.toList.drop 12).take 2 = [0x81, 0] := by
      rw [hd]
      have e1 : s[12] = 0x81 := UInt8.toNat_inj.1 h3.1
      have e2 : s[13] = 0 := UInt8.toNat_inj.1 h3.2
      rw [e1, e2]
    rw [if_neg (fun hn => hn h3')] at h
    have hdr : (((getN s.data.toList 14 2 / 4096 % 2 : Nat) : Int) == 1) = (frameOf s.data.toList).drop := by
      show _ = (getN s.data.toList 14 2 / 4096 % 2 == 1)
      generalize getN s.data.toList 14 2 / 4096 % 2 = x
      rw [Bool.eq_iff_iff]
      simp only [beq_iff_eq]
      omega
    have hbv : s.extract 18 s.size = ⟨(frameOf s.data.toList).body.toArray⟩ := by
      apply ba_ext
      rw [extract_list]
      rfl
    have bn := getN_lt s.data.toList 14 2
    simp only [Nat.reduceMul, Nat.reducePow] at bn
    have hke : k = if groupB (frameOf s.data.toList).src = true then 3 else if (frameOf s.data.toList).vlan = 0 ∨ (frameOf s.data.toList).vlan = 4095 then 4 else if (frameOf s.data.toList).type < 1536 then 6 else 0 := by
      rw [← show ((f, k) : Fr × Nat).2 = k from rfl, ← h]
      split
      · rfl
      · split
        · rfl
        · split <;> rfl
    refine ropen_rest s ⟨(frameOf s.data.toList).body.toArray⟩ w (frameOf s.data.toList).dst (frameOf s.data.toList).src (getN s.data.toList 14 2) (frameOf s.data.toList).pri (getN s.data.toList 14 2 / 4096 % 2) (frameOf s.data.toList).vlan (frameOf s.data.toList).type k (frameOf s.data.toList).drop _ (fun a n => (getN s.data.toList a.toNat n.toNat : Nat))
      (by omega) (by omega) h3.1 h3.2 (fun a n => by simp) rfl rfl rfl rfl bn b4 b1 rfl rfl rfl hdr hbv rfl hke (valF f) ?_
    rw [hke]
    split at h
    · rename_i q1
      simp only [Prod.mk.injEq] at h
      rw [if_pos q1, ← h.1]
      rfl
    · rename_i q1
      rw [if_neg q1]
      split at h
      · rename_i q2
        simp only [Prod.mk.injEq] at h
        rw [if_pos q2, ← h.1]
        rfl
      · rename_i q2
        rw [if_neg q2]
        split at h
        · rename_i q3
          simp only [Prod.mk.injEq] at h
          rw [if_pos q3, ← h.1]
          rfl
        · rename_i q3
          simp only [Prod.mk.injEq] at h
          rw [if_neg q3, ← h.1]
          rfl
  · have h3' : (s.data.toList.drop 12).take 2 ≠ [0x81, 0] := by
      rw [hd]
      intro e
      simp only [List.cons.injEq, and_true] at e
      exact h3 ⟨by rw [e.1]; rfl, by rw [e.2]; rfl⟩
    rw [if_pos h3'] at h
    simp only [Prod.mk.injEq] at h
    obtain ⟨rfl, rfl⟩ := h
    exact ropen_tag s w (by omega) (by omega) _ _ rfl rfl h3
end Go.Proofs.Ytomchhjemfldnaa.Tg
