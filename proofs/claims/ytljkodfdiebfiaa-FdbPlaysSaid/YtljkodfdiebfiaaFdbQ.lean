/-
  Tables: what the law's round carries.
-/
import Derived.Test.YtljkodfdiebfiaaFdbN
namespace Go.Proofs.Ytljkodfdiebfiaa.Fd
open Go.RowKit Go.Proofs.Ytljkodfdiebfiaa.Mm Go.Proofs.Ytljkodfdiebfiaa.Tg

/-- rows' cells are no cells of a table -/
theorem Rd.set3 {w : World} {B g : Nat} {R : Option Addr} {l : List Fr} {t : TypeId} {y0 y1 y2 : Value} (h : Rd w B R (rowCs l)) (hg : Blk w g t #[y0, y1, y2]) (n0 : ∀ z, y0 ≠ .int .u16 z) (n1 : ∀ z, y1 ≠ .int .u16 z) (n2 : ∀ z, y2 ≠ .int .u16 z) (x0 x1 x2 : Value) :
    Rd (Rw3.set w g x0 x1 x2) B R (rowCs l) := fun hn => by
  obtain ⟨ad, e, hb, hc⟩ := h hn
  refine ⟨ad, e, hb, fun j u hu => ?_⟩
  have hne : ad.block ≠ g := by
    intro eg
    cases l with
    | nil => simp [rowCs] at hn
    | cons r l =>
      have h0 := hc 0 (.int .u16 (r.vlan : Int)) rfl
      rw [show ad.add 0 = ad from rfl] at h0
      unfold World.cell? at h0
      rw [eg, hg] at h0
      simp only at h0
      split at h0
      · cases h0
      · rcases ho : ad.off with _ | _ | _ | k
        · rw [ho] at h0; simp at h0; exact n0 _ h0
        · rw [ho] at h0; simp at h0; exact n1 _ h0
        · rw [ho] at h0; simp at h0; exact n2 _ h0
        · rw [ho] at h0; simp at h0
  have hj : (ad.add j).block ≠ g := by rw [block_add]; exact hne
  have k1 (wx : World) (i : Nat) (v : Value) : (wx.setCell ⟨g, i, none⟩ v).cell? (ad.add j) = wx.cell? (ad.add j) := by
    unfold World.cell?
    rw [Below.heap_setCell wx ⟨g, i, none⟩ v _ hj]
  rw [k1, k1, k1]
  exact hc j u hu
/-- a round's state: the tables as they are -/
structure St (w wx : World) (g x y : Nat) (room age : Int) (b n rc : Nat) (R : Option Addr) (l : List Fr) : Prop where
  tb : Blk wx g 26 (tbC room age (some b))
  rt : Blk wx (g + 1) 34 (rtC room age R n rc)
  bx : Blk wx x 26 (tbC room age (some b))
  ry : Blk wx y 34 (rtC room age R n rc)
  mp : Mp wx b l
  rd : Rd wx wx.heap.size R (rowCs l)
  be : Below w.heap.size w wx
theorem St.below {w wx wy : World} {g x y b n rc : Nat} {room age : Int} {R : Option Addr} {l : List Fr} (h : St w wx g x y room age b n rc R l) (hb : Below wx.heap.size wx wy) : St w wy g x y room age b n rc R l :=
  ⟨h.tb.below hb h.tb.lt, h.rt.below hb h.rt.lt, h.bx.below hb h.bx.lt, h.ry.below hb h.ry.lt, h.mp.on hb, (h.rd.below hb).more hb.size, h.be.trans (hb.mono h.be.size)⟩
theorem St.alloc {w wx : World} {g x y b n rc : Nat} {room age : Int} {R : Option Addr} {l : List Fr} (h : St w wx g x y room age b n rc R l) (o : Obj) : St w (wx.alloc o) g x y room age b n rc R l := h.below ((Below.refl _ _).alloc (Nat.le_refl _) o)
/-- a round's end -/
def En (w wx : World) (g x y : Nat) (room age m : Int) (b n rc : Nat) (R : Option Addr) (l : List Fr) : Prop :=
  ∃ (l' : List Fr) (b' n' rc' : Nat) (R' : Option Addr), Inv room m l' ∧ n' = l'.length ∧ Blk wx g 26 (tbC room age (some b')) ∧ Blk wx (g + 1) 34 (rtC room age R' n' rc') ∧ Mp wx b' l' ∧ Rd wx wx.heap.size R' (rowCs l') ∧
    Blk wx x 26 (tbC room age (some b)) ∧ Blk wx y 34 (rtC room age R n rc) ∧ Mp wx b l ∧ Rd wx wx.heap.size R (rowCs l) ∧ Below w.heap.size w wx
theorem St.same {w wx : World} {g x y b n rc : Nat} {room age m : Int} {R : Option Addr} {l : List Fr} (h : St w wx g x y room age b n rc R l) (hi : Inv room m l) (hn : n = l.length) : En w wx g x y room age m b n rc R l :=
  ⟨l, b, n, rc, R, hi, hn, h.tb, h.rt, h.mp, h.rd, h.bx, h.ry, h.mp, h.rd, h.be⟩
theorem En.drew {w wx : World} {g x y b n rc : Nat} {room age m : Int} {R : Option Addr} {l : List Fr} (h : En w wx g x y room age m b n rc R l) : En w wx.drew g x y room age m b n rc R l := by
  obtain ⟨l', b', n', rc', R', h1, h2, h3, h4, h5, h6, h7, h8, h9, h10, h11⟩ := h
  exact ⟨l', b', n', rc', R', h1, h2, h3.drew, h4.drew, World.ownsMap.drew h5, h6, h7.drew, h8.drew, World.ownsMap.drew h9, h10, h11.drew⟩
/-- both tables turned -/
theorem St.store {w wx : World} {g x y b n rc b' n' rc' : Nat} {room age m : Int} {R R' : Option Addr} {l l' : List Fr} (h : St w wx g x y room age b n rc R l) (hi : Inv room m l') (hn : n' = l'.length) (hm : Mp wx b' l') (hr : Rd wx wx.heap.size R' (rowCs l')) (hx : g < x ∧ g + 1 < y) (hxy : x ≠ g + 1) (hw : w.heap.size ≤ g) :
    En w (Rw3.set (Rw3.set wx g (.int .i64 room) (.int .i64 age) (.map (some b'))) (g + 1) (.int .i64 room) (.int .i64 age) (.slice R' n' rc')) g x y room age m b n rc R l := by
  have t1 : Blk (Rw3.set wx g (.int .i64 room) (.int .i64 age) (.map (some b'))) (g + 1) _ _ := Rw3.far h.rt (by omega) _ _ _
  have s1 : ∀ (u0 u1 u2 : Value) (k : Nat) (wz : World), (Rw3.set wz k u0 u1 u2).heap.size = wz.heap.size := by intro u0 u1 u2 k wz; simp [World.setCell]
  have rr : ∀ {R0 : Option Addr} {l0 : List Fr}, Rd wx wx.heap.size R0 (rowCs l0) → Rd (Rw3.set (Rw3.set wx g (.int .i64 room) (.int .i64 age) (.map (some b'))) (g + 1) (.int .i64 room) (.int .i64 age) (.slice R' n' rc')) wx.heap.size R0 (rowCs l0) := fun h0 =>
    Rd.set3 (Rd.set3 h0 h.tb (by simp) (by simp) (by simp) _ _ _) t1 (by simp) (by simp) (by simp) _ _ _
  have mm : ∀ {b0 : Nat} {l0 : List Fr}, Mp wx b0 l0 → Mp (Rw3.set (Rw3.set wx g (.int .i64 room) (.int .i64 age) (.map (some b'))) (g + 1) (.int .i64 room) (.int .i64 age) (.slice R' n' rc')) b0 l0 := fun h0 => (h0.far (h0.ne h.tb) _ _ _).far (h0.ne h.rt) _ _ _
  refine ⟨l', b', n', rc', R', hi, hn, Rw3.far (Rw3.blk_set h.tb _ _ _) (by omega) _ _ _, Rw3.blk_set t1 _ _ _, mm hm, ?_, Rw3.far (Rw3.far h.bx (by omega) _ _ _) hxy _ _ _, Rw3.far (Rw3.far h.ry (by omega) _ _ _) (by omega) _ _ _, mm h.mp, ?_, Rw3.below_set (Rw3.below_set h.be hw _ _ _) (by omega) _ _ _⟩
  · rw [s1, s1]; exact rr hr
  · rw [s1, s1]; exact rr h.rd
end Go.Proofs.Ytljkodfdiebfiaa.Fd
