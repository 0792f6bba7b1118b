import Derived.Test.YtpicaknklgccoabGreatDoorX18
import Derived.Test.YtpicaknklgccoabGreatDoorX13
import Derived.Test.YtpicaknklgccoabGreatDoorX1
namespace Go.Proofs.YtpicaknklgccoabGreatDoor
structure Grow (n : Nat) (m m' : MM) : Prop where
 st : m.steps ≤ m'.steps
 fl : m.fault ≠ 0 → m'.fault ≠ 0 ∧ m'.steps = m.steps
 op : m'.opened + 20000 * m.steps + (if m'.fault = 0 then 20000 else 0) ≤ m.opened + 20000 * m'.steps + n
 rg : m'.regs.length = m.regs.length
 nm : m'.named.length = m.named.length
 cl : m'.cells.length + m.steps ≤ m.cells.length + m'.steps
structure Inner (n s : Nat) (m m' : MM) : Prop where
 st : m.steps ≤ m'.steps
 op : m'.opened + 20000 * m.steps ≤ m.opened + 20000 * m'.steps + n
 rg : m'.regs.length = m.regs.length
 nm : m'.named.length = m.named.length
 cl : m'.cells.length + m.steps ≤ m.cells.length + m'.steps + s
theorem Inner.refl (m : MM) : Inner 0 0 m m := ⟨Nat.le_refl _, by omega, rfl, rfl, by omega⟩
theorem Grow.inner {n : Nat} {m m' : MM} (h : Grow n m m') : Inner n 0 m m' := ⟨h.st, by have := h.op; split at this <;> omega, h.rg, h.nm, by have := h.cl; omega⟩
theorem Inner.trans {n n' s s' : Nat} {m m1 m2 : MM} (h : Inner n s m m1) (h' : Inner n' s' m1 m2) : Inner (n + n') (s + s') m m2 := by
 have := h.st; have := h'.st; have := h.op; have := h'.op; have := h.cl; have := h'.cl
 exact ⟨by omega, by omega, h'.rg.trans h.rg, h'.nm.trans h.nm, by omega⟩
theorem Inner.le {n n' s s' : Nat} {m m1 : MM} (h : Inner n s m m1) (hn : n ≤ n') (hs : s ≤ s') : Inner n' s' m m1 := by
 have := h.op; have := h.cl
 exact ⟨h.st, by omega, h.rg, h.nm, by omega⟩
theorem stop_inner (m : MM) (f : Nat) : Inner 0 0 m (m.stop f) := by
 unfold MM.stop; split
 ·exact ⟨Nat.le_refl _, by simp only; omega, rfl, rfl, by simp only; omega⟩
 ·exact Inner.refl m
theorem use_inner (m : MM) (v : MV) : Inner 0 0 m (m.use v).2 := by
 unfold MM.use; split
 ·exact Inner.refl m
 ·simp only; split
  ·exact Inner.refl m
  ·exact stop_inner m 13
theorem name_inner (m : MM) (i : Int) (v : MV) : Inner 0 0 m (m.name i v) := by
 unfold MM.name; split
 ·exact ⟨Nat.le_refl _, by simp only; omega, rfl, by simp, by simp only; omega⟩
 ·exact Inner.refl m
theorem name_fault (m : MM) (i : Int) (v : MV) : (m.name i v).fault = m.fault ∧ (m.name i v).steps = m.steps := by unfold MM.name; split <;> exact ⟨rfl, rfl⟩
theorem cell_inner (m : MM) (k : Int) (a b : MV) : Inner 0 1 m (m.newCell k a b).2 := by
 cases hr : m.regs[m.home k]? with
 | none => unfold MM.newCell; rw [hr]; exact (Inner.refl m).le (Nat.le_refl _) (by omega)
 | some r =>
  have ef : m.newCell k a b = (⟨true, m.cells.length⟩, { m with regs := m.regs.set (m.home k) { r with cells := r.cells + 1 }, cells := m.cells ++ [⟨a, b, m.home k, r.ser⟩], live := m.live + 1, most := if m.most < m.live + 1 then m.live + 1 else m.most }) := by unfold MM.newCell; rw [hr]
  rw [ef]
  exact ⟨Nat.le_refl _, by simp only; omega, by simp, rfl, by simp; omega⟩
def MKeeps (fuel n : Nat) (m : MM) (x : MV × MM) : Prop := MBd fuel x.2 ∧ x.1.bd ∧ Grow n m x.2
def MKeepsI (fuel n s : Nat) (m : MM) (x : MV × MM) : Prop := MBd fuel x.2 ∧ x.1.bd ∧ Inner n s m x.2
theorem begun_keeps {fuel n : Nat} {m : MM} {f : MM → MV × MM} (h : MBd fuel m) (hf : m.fault = 0 → m.steps < fuel → MBd fuel { m with steps := m.steps + 1 } → MKeepsI fuel n 1 { m with steps := m.steps + 1 } (f { m with steps := m.steps + 1 })) : MKeeps fuel (1 + n) m (mBegun fuel m f) := by
 unfold mBegun
 by_cases hfu : fuel ≤ m.steps
 ·simp only [if_pos hfu]
  have hne : (m.stop 12).fault ≠ 0 := by unfold MM.stop; split <;> simp_all
  simp only [if_pos hne]
  have hi := stop_inner m 12
  have hs : (m.stop 12).steps = m.steps := by unfold MM.stop; split <;> rfl
  refine ⟨MM.stop_bd h 12, v0_bd, ⟨hi.st, fun _ => ⟨hne, hs⟩, ?_, hi.rg, hi.nm, ?_⟩⟩
  ·have := hi.op; rw [if_neg hne]; simp only at this ⊢; omega
  ·have := hi.cl; simp only at this ⊢; omega
 ·simp only [if_neg hfu]
  by_cases hz : m.fault = 0
  ·rw [if_neg (fun hn => hn hz)]
   have hst := h.steps
   have hb : MBd fuel { m with steps := m.steps + 1 } := ⟨by simp only; omega, Nat.le_succ_of_le h.cells, h.live, h.sum, h.most, h.named, h.cell, h.regs, h.ser⟩
   obtain ⟨h1, h2, h3⟩ := hf hz (by omega) hb
   generalize f { m with steps := m.steps + 1 } = y at h1 h2 h3
   have q1 := h3.st; have q2 := h3.op; have q3 := h3.cl
   simp only at q1 q2 q3
   have q4 : (if y.2.fault = 0 then 20000 else 0) ≤ 20000 := by split <;> decide
   exact ⟨h1, h2, ⟨by omega, fun hn => absurd hz hn, by omega, h3.rg, h3.nm, by omega⟩⟩
  ·simp only [if_pos hz]
   exact ⟨h, v0_bd, ⟨Nat.le_refl _, fun _ => ⟨hz, rfl⟩, by simp only [if_neg hz]; omega, rfl, rfl, by simp only; omega⟩⟩
theorem turns_keeps {fuel n : Nat} (hn : n ≤ 20000) {i : Int} {f : MM → MV × MM} {R : Nat} (hf : ∀ m, MBd fuel m → m.regs.length = R → MKeeps fuel n m (f m)) : ∀ (k : Nat) (x : MV) (m : MM), MBd fuel m → x.bd → m.regs.length = R → MKeepsI fuel n 0 m (mTurns i f k x m)
 | 0, x, m, hm, hx, _ => ⟨hm, hx, (Inner.refl m).le (Nat.zero_le _) (Nat.le_refl _)⟩
 | k + 1, x, m, hm, hx, hR => by
  simp only [mTurns]
  split
  ·exact ⟨hm, hx, (Inner.refl m).le (Nat.zero_le _) (Nat.le_refl _)⟩
  ·rename_i hz
   have hz : m.fault = 0 := by simpa using hz
   have hni := name_inner m i x
   obtain ⟨h1, h2, h3⟩ := hf (m.name i x) (MM.name_bd hm i x hx) (hni.rg.trans hR)
   have hnf := name_fault m i x
   have ih := turns_keeps (i := i) hn hf k (f (m.name i x)).1 (f (m.name i x)).2 h1 h2 (h3.rg.trans (hni.rg.trans hR))
   by_cases hf1 : (f (m.name i x)).2.fault = 0
   ·refine ⟨ih.1, ih.2.1, ?_⟩
    have a := ih.2.2
    have q1 := h3.op
    rw [if_pos hf1] at q1
    have q2 := hni.op; have q3 := hni.cl; have q4 := h3.cl; have q5 := h3.st; have q6 := a.op; have q7 := a.cl; have q8 := a.st
    exact ⟨by omega, by omega, a.rg.trans (h3.rg.trans hni.rg), a.nm.trans (h3.nm.trans hni.nm), by omega⟩
   ·have e : mTurns i f k (f (m.name i x)).1 (f (m.name i x)).2 = ((f (m.name i x)).1, (f (m.name i x)).2) := by
     cases k with
     | zero => rfl
     | succ k => simp only [mTurns]; rw [if_pos hf1]
    rw [e]
    have := hni.trans h3.inner
    exact ⟨h1, h2, this.le (by omega) (by omega)⟩
mutual
def PT.rgd : PT → Prop
 | .num _ s => 0 ≤ valueL s ∧ valueL s ≤ 9999
 | .name _ _ => True
 | .node _ _ _ rg kids => (0 ≤ valueL rg ∧ valueL rg ≤ 9999) ∧ rgdL kids
def rgdL : List PT → Prop
 | [] => True
 | t :: r => t.rgd ∧ rgdL r
end
mutual
theorem mW_keeps (fuel : Nat) (hfu : fuel ≤ 20000) : ∀ (t : PT) (sc : Sc) (base : Nat) (m : MM), t.wf → t.rgd → MBd fuel m → m.regs.length + t.cnt ≤ 20000 → MKeeps fuel t.cnt m (mW fuel t sc base m)
 | .num p s, sc, base, m, _, hr, hb, _ => by
  simp only [PT.rgd] at hr
  simp only [mW, PT.cnt]
  exact begun_keeps (n := 0) hb (fun _ _ hb => ⟨hb, by simp only [MV.bd]; omega, (Inner.refl _).le (Nat.le_refl _) (by omega)⟩)
 | .name p s, sc, base, m, _, _, hb, _ => by
  simp only [mW, PT.cnt]
  exact begun_keeps (n := 0) hb (fun _ _ hb => ⟨hb, MM.look_bd hb _, (Inner.refl _).le (Nat.le_refl _) (by omega)⟩)
 | .node p k nm rg kids, sc, base, m, hw, hr, hb, hl => by
  simp only [PT.wf] at hw
  simp only [PT.rgd] at hr
  simp only [PT.cnt] at hl
  simp only [mW, PT.cnt]
  by_cases hk : k = .new
  ·subst hk
   simp only [if_pos]
   exact mNew_keeps fuel hfu (valueL rg) (by omega) kids sc base m hw.1 hw.2 hr.2 hb hl
  ·simp only [if_neg hk]
   refine begun_keeps hb (fun hz hlt hb1 => ?_)
   by_cases hk1 : k = .let_
   ·subst hk1
    simp only [if_pos]
    exact mLet_keeps fuel hfu nm kids sc base _ hw.1 hw.2 hr.2 hb1 (by simp only; omega)
   ·simp only [if_neg hk1]
    by_cases hk2 : k = .if_
    ·subst hk2
     simp only [if_pos]
     exact mIf_keeps fuel hfu kids sc base _ hw.1 hw.2 hr.2 hb1 (by simp only; omega)
    ·simp only [if_neg hk2]
     by_cases hk3 : k = .loop
     ·subst hk3
      simp only [if_pos]
      exact mLoop_keeps fuel hfu nm kids sc base _ hw.1 hw.2 hr.2 hb1 (by simp only; omega)
     ·simp only [if_neg hk3]
      have := hb.cells
      exact mOps_keeps fuel hfu k (valueL rg) kids sc base _ hw.2 hr.2 hb1 (by simp only; omega) (by simp only; omega)
theorem mNew_keeps (fuel : Nat) (hfu : fuel ≤ 20000) (rg : Int) (hrg : -1 ≤ rg ∧ rg ≤ 9999) : ∀ (ts : List PT) (sc : Sc) (base : Nat) (m : MM), ts.length = arity .new → wfL ts → rgdL ts → MBd fuel m → m.regs.length + (1 + cntL ts) ≤ 20000 → MKeeps fuel (1 + cntL ts) m (mNew fuel rg ts sc base m)
 | [a], sc, base, m, _, hw, hr, hb, hl => by
  simp only [wfL] at hw
  simp only [rgdL] at hr
  simp only [cntL] at hl
  simp only [mNew, cntL]
  have h0 := MM.opn_bd hb rg hrg (by omega)
  have ho : (m.opn rg).regs.length = m.regs.length + 1 := by simp [MM.opn]
  obtain ⟨h1, h2, h3⟩ := mW_keeps fuel hfu a sc base (m.opn rg) hw.1 hr.1 h0 (by omega)
  have e1 : (m.opn rg).steps = m.steps := rfl
  have e2 : (m.opn rg).fault = m.fault := rfl
  have e3 : (m.opn rg).opened = m.opened + 1 := rfl
  have e4 : (m.opn rg).named = m.named := rfl
  have e5 : (m.opn rg).cells = m.cells := rfl
  generalize mW fuel a sc base (m.opn rg) = x at h1 h2 h3
  have hrl := h3.rg
  have hfin : x.2.fin.steps = x.2.steps ∧ x.2.fin.fault = x.2.fault ∧ x.2.fin.opened = x.2.opened ∧ x.2.fin.named = x.2.named ∧ x.2.fin.cells = x.2.cells ∧ x.2.fin.regs.length = x.2.regs.length - 1 := by
   unfold MM.fin
   cases hg : x.2.regs.getLast? with
   | none => have : x.2.regs = [] := by simpa using hg
             rw [this] at hrl; simp at hrl; omega
   | some r => exact ⟨rfl, rfl, rfl, rfl, rfl, by simp⟩
  obtain ⟨f1, f2, f3, f4, f5, f6⟩ := hfin
  have g1 := h3.st; have g2 := h3.fl; have g3 := h3.op; have g4 := h3.nm; have g5 := h3.cl
  rw [e1] at g1 g2 g3 g5
  rw [e2] at g2
  rw [e3] at g3
  rw [e4] at g4
  rw [e5] at g5
  refine ⟨MM.fin_bd h1, h2, ⟨by rw [f1]; exact g1, by rw [f1, f2]; exact g2, ?_, by rw [f6]; omega, by rw [f4]; exact g4, by rw [f5, f1]; exact g5⟩⟩
  rw [f3, f2, f1]
  omega
 | [], _, _, _, hl, _, _, _, _ => by simp [arity] at hl
 | _ :: _ :: _, _, _, _, hl, _, _, _, _ => by simp [arity] at hl
theorem mLet_keeps (fuel : Nat) (hfu : fuel ≤ 20000) (nm : List UInt8) : ∀ (ts : List PT) (sc : Sc) (base : Nat) (m : MM), ts.length = arity .let_ → wfL ts → rgdL ts → MBd fuel m → m.regs.length + (1 + cntL ts) ≤ 20000 → MKeepsI fuel (cntL ts) 1 m (mLet fuel nm ts sc base m)
 | [a, b], sc, base, m, _, hw, hr, hb, hl => by
  simp only [wfL] at hw
  simp only [rgdL] at hr
  simp only [cntL] at hl
  simp only [mLet, cntL]
  obtain ⟨h1, h2, h3⟩ := mW_keeps fuel hfu a sc base m hw.1 hr.1 hb (by omega)
  generalize mW fuel a sc base m = x at h1 h2 h3
  have hrl := h3.rg
  have hn := name_inner x.2 (((base + a.cnt : Nat) : Int) - 1) x.1
  have hnr := hn.rg
  obtain ⟨k1, k2, k3⟩ := mW_keeps fuel hfu b (sc ++ [(nm, ((base + a.cnt : Nat) : Int) - 1)]) (base + a.cnt) _ hw.2.1 hr.2.1 (MM.name_bd h1 (((base + a.cnt : Nat) : Int) - 1) x.1 h2) (by omega)
  exact ⟨k1, k2, (h3.inner.trans (hn.trans k3.inner)).le (by omega) (by omega)⟩
 | [], _, _, _, hl, _, _, _, _ => by simp [arity] at hl
 | [_], _, _, _, hl, _, _, _, _ => by simp [arity] at hl
 | _ :: _ :: _ :: _, _, _, _, hl, _, _, _, _ => by simp [arity] at hl
theorem mIf_keeps (fuel : Nat) (hfu : fuel ≤ 20000) : ∀ (ts : List PT) (sc : Sc) (base : Nat) (m : MM), ts.length = arity .if_ → wfL ts → rgdL ts → MBd fuel m → m.regs.length + (1 + cntL ts) ≤ 20000 → MKeepsI fuel (cntL ts) 1 m (mIf fuel ts sc base m)
 | [a, b, c], sc, base, m, _, hw, hr, hb, hl => by
  simp only [wfL] at hw
  simp only [rgdL] at hr
  simp only [cntL] at hl
  simp only [mIf, cntL]
  obtain ⟨h1, h2, h3⟩ := mW_keeps fuel hfu a sc base m hw.1 hr.1 hb (by omega)
  generalize mW fuel a sc base m = x at h1 h2 h3
  have hrl := h3.rg
  split
  ·obtain ⟨k1, k2, k3⟩ := mW_keeps fuel hfu b sc (base + a.cnt) x.2 hw.2.1 hr.2.1 h1 (by omega)
   exact ⟨k1, k2, (h3.inner.trans k3.inner).le (by omega) (by omega)⟩
  ·obtain ⟨k1, k2, k3⟩ := mW_keeps fuel hfu c sc (base + a.cnt + b.cnt) x.2 hw.2.2.1 hr.2.2.1 h1 (by omega)
   exact ⟨k1, k2, (h3.inner.trans k3.inner).le (by omega) (by omega)⟩
 | [], _, _, _, hl, _, _, _, _ => by simp [arity] at hl
 | [_], _, _, _, hl, _, _, _, _ => by simp [arity] at hl
 | [_, _], _, _, _, hl, _, _, _, _ => by simp [arity] at hl
 | _ :: _ :: _ :: _ :: _, _, _, _, hl, _, _, _, _ => by simp [arity] at hl
theorem mLoop_keeps (fuel : Nat) (hfu : fuel ≤ 20000) (nm : List UInt8) : ∀ (ts : List PT) (sc : Sc) (base : Nat) (m : MM), ts.length = arity .loop → wfL ts → rgdL ts → MBd fuel m → m.regs.length + (1 + cntL ts) ≤ 20000 → MKeepsI fuel (cntL ts) 1 m (mLoop fuel nm ts sc base m)
 | [a, b, c], sc, base, m, _, hw, hr, hb, hl => by
  simp only [wfL] at hw
  simp only [rgdL] at hr
  simp only [cntL] at hl
  simp only [mLoop, cntL]
  obtain ⟨h1, h2, h3⟩ := mW_keeps fuel hfu a sc base m hw.1 hr.1 hb (by omega)
  generalize mW fuel a sc base m = x at h1 h2 h3
  have hrl := h3.rg
  obtain ⟨k1, k2, k3⟩ := mW_keeps fuel hfu b sc (base + a.cnt) x.2 hw.2.1 hr.2.1 h1 (by omega)
  generalize mW fuel b sc (base + a.cnt) x.2 = y at k1 k2 k3
  have hrl2 := k3.rg
  obtain ⟨l1, l2, l3⟩ := turns_keeps (n := c.cnt) (by omega) (i := ((base + a.cnt + b.cnt : Nat) : Int) - 1) (R := y.2.regs.length) (f := fun m => mW fuel c (sc ++ [(nm, ((base + a.cnt + b.cnt : Nat) : Int) - 1)]) (base + a.cnt + b.cnt) m)
   (fun m hm hR => mW_keeps fuel hfu c _ (base + a.cnt + b.cnt) m hw.2.2.1 hr.2.2.1 hm (by omega)) x.1.n.toNat y.1 y.2 k1 k2 rfl
  exact ⟨l1, l2, (h3.inner.trans (k3.inner.trans l3)).le (by omega) (by omega)⟩
 | [], _, _, _, hl, _, _, _, _ => by simp [arity] at hl
 | [_], _, _, _, hl, _, _, _, _ => by simp [arity] at hl
 | [_, _], _, _, _, hl, _, _, _, _ => by simp [arity] at hl
 | _ :: _ :: _ :: _ :: _, _, _, _, hl, _, _, _, _ => by simp [arity] at hl
theorem mOps_keeps (fuel : Nat) (hfu : fuel ≤ 20000) (k : Kw) (rg : Int) : ∀ (ts : List PT) (sc : Sc) (base : Nat) (m : MM), wfL ts → rgdL ts → MBd fuel m → m.regs.length + (1 + cntL ts) ≤ 20000 → m.cells.length < m.steps → MKeepsI fuel (cntL ts) 1 m (mOps fuel k rg ts sc base m)
 | [a], sc, base, m, hw, hr, hb, hl, _ => by
  simp only [wfL] at hw
  simp only [rgdL] at hr
  simp only [cntL] at hl
  simp only [mOps, cntL]
  obtain ⟨h1, h2, h3⟩ := mW_keeps fuel hfu a sc base m hw.1 hr.1 hb (by omega)
  generalize mW fuel a sc base m = x at h1 h2 h3
  have hu := MM.use_bd h1 x.1
  refine ⟨hu.1, ?_, (h3.inner.trans (use_inner x.2 x.1)).le (by omega) (by omega)⟩
  simp only
  split
  ·exact hu.2.1
  ·exact hu.2.2
 | [a, b], sc, base, m, hw, hr, hb, hl, hlt => by
  simp only [wfL] at hw
  simp only [rgdL] at hr
  simp only [cntL] at hl
  simp only [mOps, cntL]
  obtain ⟨h1, h2, h3⟩ := mW_keeps fuel hfu a sc base m hw.1 hr.1 hb (by omega)
  generalize mW fuel a sc base m = x at h1 h2 h3
  have hrl := h3.rg
  obtain ⟨k1, k2, k3⟩ := mW_keeps fuel hfu b sc (base + a.cnt) x.2 hw.2.1 hr.2.1 h1 (by omega)
  generalize mW fuel b sc (base + a.cnt) x.2 = y at k1 k2 k3
  have q1 := h3.cl; have q2 := k3.cl
  split
  ·have hc := MM.newCell_bd k1 rg x.1 y.1 h2 k2 (by omega) hfu
   exact ⟨hc.1, hc.2, (h3.inner.trans (k3.inner.trans (cell_inner y.2 rg x.1 y.1))).le (by omega) (by omega)⟩
  ·exact ⟨k1, arith_bd _ _ _, (h3.inner.trans k3.inner).le (by omega) (by omega)⟩
 | [], _, _, m, _, _, hb, _, _ => by simp only [mOps]; exact ⟨hb, v0_bd, (Inner.refl m).le (Nat.zero_le _) (by omega)⟩
 | _ :: _ :: _ :: _, _, _, m, _, _, hb, _, _ => by simp only [mOps]; exact ⟨hb, v0_bd, (Inner.refl m).le (Nat.zero_le _) (by omega)⟩
end
def Fits (cells : List MC) : Ty → MV → Prop
 | .n, v => v.c = false ∧ 0 ≤ v.n ∧ v.n ≤ 9999
 | .p _ A B, v => (v.c = false ∧ 0 ≤ v.n ∧ v.n ≤ 9999) ∨ (v.c = true ∧ ∃ (i : Nat) (c : MC), v.n = i ∧ cells[i]? = some c ∧ Fits cells A c.a ∧ Fits cells B c.b)
theorem fits_v0 (cells : List MC) (T : Ty) : Fits cells T v0 := by cases T <;> simp [Fits, v0]
theorem Fits.mono {cells l : List MC} : ∀ {T : Ty} {v : MV}, Fits cells T v → Fits (cells ++ l) T v
 | .n, _, h => h
 | .p _ A B, _, h => by
  simp only [Fits] at h ⊢
  rcases h with h | ⟨hc, i, c, hv, hi, ha, hb⟩
  ·exact Or.inl h
  ·refine Or.inr ⟨hc, i, c, hv, ?_, Fits.mono ha, Fits.mono hb⟩
   rw [List.getElem?_append_left (List.getElem?_eq_some_iff.1 hi).1]; exact hi
structure Ext (m m' : MM) (base c : Nat) : Prop where
 cells : ∃ l, m'.cells = m.cells ++ l
 len : m'.named.length = m.named.length
 named : ∀ i, (i < base ∨ base + c ≤ i) → m'.named[i]? = m.named[i]?
theorem Ext.refl (m : MM) (base c : Nat) : Ext m m base c := ⟨⟨[], by simp⟩, rfl, fun _ _ => rfl⟩
theorem Ext.trans {m m1 m2 : MM} {b c b1 c1 b2 c2 : Nat} (h : Ext m m1 b1 c1) (h' : Ext m1 m2 b2 c2) (hb1 : b ≤ b1 ∧ b1 + c1 ≤ b + c) (hb2 : b ≤ b2 ∧ b2 + c2 ≤ b + c) : Ext m m2 b c := by
 obtain ⟨l, hl⟩ := h.cells
 obtain ⟨l', hl'⟩ := h'.cells
 exact ⟨⟨l ++ l', by rw [hl', hl, List.append_assoc]⟩, h'.len.trans h.len, fun i hi => (h'.named i (by omega)).trans (h.named i (by omega))⟩
theorem Ext.same {m m' : MM} (h1 : m'.cells = m.cells) (h2 : m'.named = m.named) (base c : Nat) : Ext m m' base c := ⟨⟨[], by simp [h1]⟩, by rw [h2], fun _ _ => by rw [h2]⟩
theorem Fits.on {m m' : MM} {b c : Nat} {T : Ty} {v : MV} (h : Fits m.cells T v) (he : Ext m m' b c) : Fits m'.cells T v := by
 obtain ⟨l, hl⟩ := he.cells
 rw [hl]; exact h.mono
theorem stop_ext (m : MM) (f base c : Nat) : Ext m (m.stop f) base c := by unfold MM.stop; split <;> (refine Ext.same ?_ ?_ _ _ <;> rfl)
theorem use_ext (m : MM) (v : MV) (base c : Nat) : Ext m (m.use v).2 base c := by
 unfold MM.use; split
 ·exact Ext.refl _ _ _
 ·simp only; split
  ·exact Ext.refl _ _ _
  ·exact stop_ext _ _ _ _
theorem cell_ext (m : MM) (k : Int) (a b : MV) (base c : Nat) : Ext m (m.newCell k a b).2 base c := by
 unfold MM.newCell; split
 ·exact Ext.refl _ _ _
 ·exact ⟨⟨_, rfl⟩, rfl, fun _ _ => rfl⟩
theorem name_ext (m : MM) (j : Nat) (v : MV) (base c : Nat) (hj : base ≤ j ∧ j < base + c) : Ext m (m.name (j : Int) v) base c := by
 unfold MM.name; split
 ·refine ⟨⟨[], by simp⟩, by simp, fun i hi => ?_⟩
  simp only [Int.toNat_natCast]
  rw [List.getElem?_set_ne (by omega)]
 ·exact Ext.refl _ _ _
theorem name_at (m : MM) (j : Nat) (v : MV) (hj : j < m.named.length) : (m.name (j : Int) v).named[j]? = some v := by
 unfold MM.name
 rw [if_pos (by omega)]
 simp only [Int.toNat_natCast]
 rw [List.getElem?_set_self hj]
theorem fin_ext (m : MM) (base c : Nat) : Ext m m.fin base c := by unfold MM.fin; split <;> (refine Ext.same ?_ ?_ _ _ <;> rfl)
def EF (named : List MV) (cells : List MC) (sc : Sc) (G : TEnv) (base : Nat) : Prop := ∀ s T, look G s = some T → ∃ (i : Nat) (v : MV), findS sc s = (i : Int) ∧ i < base ∧ named[i]? = some v ∧ Fits cells T v
theorem look_snocF (G : TEnv) (nm : List UInt8) (T : Ty) (s : List UInt8) : look (G ++ [(nm, T)]) s = if nm = s then some T else look G s := by
 unfold look
 rw [List.reverse_append]
 simp only [List.reverse_cons, List.reverse_nil, List.nil_append, List.singleton_append, List.find?_cons]
 by_cases h : nm = s
 ·simp [h]
 ·have : (nm == s) = false := by rw [beq_eq_false_iff_ne]; exact h
  simp [h, this]
theorem findS_snoc (sc : Sc) (nm : List UInt8) (j : Int) (s : List UInt8) : findS (sc ++ [(nm, j)]) s = if nm = s then j else findS sc s := by
 unfold findS
 rw [List.reverse_append]
 simp only [List.reverse_cons, List.reverse_nil, List.nil_append, List.singleton_append, List.find?_cons]
 by_cases h : nm = s
 ·simp [h]
 ·have : (nm == s) = false := by rw [beq_eq_false_iff_ne]; exact h
  simp [h, this]
theorem EF.on {m m' : MM} {sc : Sc} {G : TEnv} {base b c : Nat} (h : EF m.named m.cells sc G base) (he : Ext m m' b c) (hb : base ≤ b) : EF m'.named m'.cells sc G base := by
 intro s T hl
 obtain ⟨i, v, h1, h2, h3, h4⟩ := h s T hl
 exact ⟨i, v, h1, h2, (he.named i (Or.inl (by omega))).trans h3, h4.on he⟩
theorem EF.up {named : List MV} {cells : List MC} {sc : Sc} {G : TEnv} {base b : Nat} (h : EF named cells sc G base) (hb : base ≤ b) : EF named cells sc G b := by
 intro s T hl
 obtain ⟨i, v, h1, h2, h3, h4⟩ := h s T hl
 exact ⟨i, v, h1, by omega, h3, h4⟩
theorem EF.snoc {m : MM} {sc : Sc} {G : TEnv} {base j : Nat} {nm : List UInt8} {T : Ty} {v : MV} (h : EF m.named m.cells sc G base) (hj : base ≤ j) (hl : j < m.named.length) (hv : Fits m.cells T v) : EF (m.name (j : Int) v).named (m.name (j : Int) v).cells (sc ++ [(nm, (j : Int))]) (G ++ [(nm, T)]) (j + 1) := by
 have he := name_ext m j v j 1 (by omega)
 intro s T' hlk
 rw [look_snocF] at hlk
 rw [findS_snoc]
 by_cases hs : nm = s
 ·rw [if_pos hs] at hlk ⊢
  cases hlk
  exact ⟨j, v, rfl, by omega, name_at m j v hl, hv.on he⟩
 ·rw [if_neg hs] at hlk ⊢
  obtain ⟨i, u, h1, h2, h3, h4⟩ := h s T' hlk
  exact ⟨i, u, h1, by omega, (he.named i (Or.inl (by omega))).trans h3, h4.on he⟩
def FitOut (m : MM) (x : MV × MM) (base c : Nat) (T : Ty) : Prop := Ext m x.2 base c ∧ Fits x.2.cells T x.1
theorem begun_fit {fuel : Nat} {m : MM} {f : MM → MV × MM} {base c : Nat} {T : Ty} (h : FitOut { m with steps := m.steps + 1 } (f { m with steps := m.steps + 1 }) base c T) : FitOut m (mBegun fuel m f) base c T := by
 unfold mBegun
 by_cases hfu : fuel ≤ m.steps
 ·simp only [if_pos hfu]
  have hne : (m.stop 12).fault ≠ 0 := by unfold MM.stop; split <;> simp_all
  simp only [if_pos hne]
  exact ⟨stop_ext _ _ _ _, fits_v0 _ _⟩
 ·simp only [if_neg hfu]
  by_cases hz : m.fault = 0
  ·rw [if_neg (fun hn => hn hz)]
   exact ⟨(show Ext m { m with steps := m.steps + 1 } base c from Ext.same (by rfl) (by rfl) base c).trans h.1 (by omega) (by omega), h.2⟩
  ·rw [if_pos hz]
   exact ⟨Ext.refl _ _ _, fits_v0 _ _⟩
theorem turns_fit {base c j : Nat} {T : Ty} {f : MM → MV × MM} {L : Nat} {P : MM → Prop} (hj : base ≤ j ∧ j < base + c) (hP : ∀ m v, P m → Fits m.cells T v → m.named.length = L → FitOut (m.name (j : Int) v) (f (m.name (j : Int) v)) base c T) (hPe : ∀ m m', P m → Ext m m' base c → P m') : ∀ (k : Nat) (v : MV) (m : MM), P m → Fits m.cells T v → m.named.length = L → FitOut m (mTurns (j : Int) f k v m) base c T
 | 0, v, m, _, hv, _ => ⟨Ext.refl _ _ _, hv⟩
 | k + 1, v, m, hm, hv, hL => by
  simp only [mTurns]
  split
  ·exact ⟨Ext.refl _ _ _, hv⟩
  ·have h1 := hP m v hm hv hL
   have he : Ext m (f (m.name (j : Int) v)).2 base c := (name_ext m j v base c hj).trans h1.1 (by omega) (by omega)
   have h2 := turns_fit hj hP hPe k (f (m.name (j : Int) v)).1 (f (m.name (j : Int) v)).2 (hPe m _ hm he) h1.2 (he.len.trans hL)
   exact ⟨he.trans h2.1 (by omega) (by omega), h2.2⟩
theorem arith_fit (cells : List MC) (k : Kw) (a b : Int) (ha : 0 ≤ a ∧ a ≤ 9999) (hb : 0 ≤ b ∧ b ≤ 9999) : Fits cells .n ⟨false, mArith k a b⟩ := by
 simp only [Fits, mArith, true_and]
 split
 ·rw [Int.tmod_eq_emod_of_nonneg (by omega)]; omega
 ·split
  ·rw [Int.tmod_eq_emod_of_nonneg (by omega)]; omega
  ·split <;> omega
theorem use_fit {m : MM} {A B : Ty} {r : Nat} {v : MV} (h : Fits m.cells (.p r A B) v) : Fits m.cells A (m.use v).1.a ∧ Fits m.cells B (m.use v).1.b := by
 simp only [Fits] at h
 rcases h with h | ⟨hc, i, c, hv, hi, ha, hb⟩
 ·have e : (m.use v).1 = c0 := by unfold MM.use; rw [if_pos (Or.inl h.1)]
  rw [e]; exact ⟨fits_v0 _ _, fits_v0 _ _⟩
 ·have hil := (List.getElem?_eq_some_iff.1 hi).1
  have e : (m.use v).1 = c := by
   unfold MM.use
   rw [if_neg (by rw [hc, hv]; simp; omega)]
   simp only
   rw [hv, Int.toNat_natCast, List.getD_eq_getElem?_getD, hi]; rfl
  rw [e]; exact ⟨ha, hb⟩
theorem cell_fit {m : MM} {A B : Ty} {k : Int} {a b : MV} (ha : Fits m.cells A a) (hb : Fits m.cells B b) : Fits (m.newCell k a b).2.cells (.p 0 A B) (m.newCell k a b).1 := by
 have he := cell_ext m k a b 0 0
 unfold MM.newCell at he ⊢
 split
 ·exact fits_v0 _ _
 ·rename_i r hr
  simp only [Fits]
  refine Or.inr ⟨trivial, m.cells.length, ⟨a, b, m.home k, r.ser⟩, rfl, by simp, ha.mono, hb.mono⟩
set_option maxHeartbeats 1000000 in
theorem mW_fits (fuel : Nat) {G : TEnv} {t : PT} {T : Ty} (h : WT G t T) : ∀ (sc : Sc) (base : Nat) (m : MM), t.rgd → EF m.named m.cells sc G base → base + t.cnt ≤ m.named.length → FitOut m (mW fuel t sc base m) base t.cnt T := by
 induction h with
 | num =>
  intro sc base m hr he hl
  simp only [PT.rgd] at hr
  simp only [mW]
  exact begun_fit ⟨Ext.refl _ _ _, by simp only [Fits, true_and]; exact hr⟩
 | name hlk =>
  intro sc base m hr he hl
  simp only [mW]
  refine begun_fit ⟨Ext.refl _ _ _, ?_⟩
  obtain ⟨i, v, h1, h2, h3, h4⟩ := he _ _ hlk
  have hil := (List.getElem?_eq_some_iff.1 h3).1
  unfold MM.look
  simp only [h1]
  rw [if_neg (by omega), Int.toNat_natCast, List.getD_eq_getElem?_getD, h3]
  exact h4
 | @let_ G p nm rg a b A B ha hb iha ihb =>
  intro sc base m hr he hl
  simp only [PT.rgd, rgdL] at hr
  simp only [PT.cnt, cntL, Nat.add_zero] at hl ⊢
  simp only [mW, mLet, if_true, reduceCtorEq, if_false]
  refine begun_fit ?_
  have h1 := iha sc base { m with steps := m.steps + 1 } hr.2.1 he (by simp only; omega)
  generalize mW fuel a sc base { m with steps := m.steps + 1 } = x at h1 ⊢
  have hca := cnt_pos' a
  have hxl : x.2.named.length = m.named.length := h1.1.len
  have hx := EF.on (m := { m with steps := m.steps + 1 }) he h1.1 (Nat.le_refl _)
  rw [show (((base + a.cnt : Nat) : Int) - 1) = ((base + a.cnt - 1 : Nat) : Int) from by omega]
  have hsn := hx.snoc (nm := nm) (j := base + a.cnt - 1) (by omega) (by omega) h1.2
  rw [show base + a.cnt - 1 + 1 = base + a.cnt from by omega] at hsn
  have hne := name_ext x.2 (base + a.cnt - 1) x.1 base a.cnt (by omega)
  have h2 := ihb _ (base + a.cnt) _ hr.2.2.1 hsn (by rw [hne.len, hxl]; omega)
  exact ⟨(h1.1.trans hne (b := base) (c := a.cnt) (by omega) (by omega)).trans h2.1 (by omega) (by omega), h2.2⟩
 | @pair G p nm rg a b A B ha hb hs iha ihb =>
  intro sc base m hr he hl
  simp only [PT.rgd, rgdL] at hr
  simp only [PT.cnt, cntL, Nat.add_zero] at hl ⊢
  simp only [mW, mOps, if_true, reduceCtorEq, if_false]
  refine begun_fit ?_
  have h1 := iha sc base { m with steps := m.steps + 1 } hr.2.1 he (by simp only; omega)
  generalize mW fuel a sc base { m with steps := m.steps + 1 } = x at h1 ⊢
  have hxl : x.2.named.length = m.named.length := h1.1.len
  have h2 := ihb sc (base + a.cnt) x.2 hr.2.2.1 ((EF.on (m := { m with steps := m.steps + 1 }) he h1.1 (Nat.le_refl _)).up (by omega)) (by omega)
  generalize mW fuel b sc (base + a.cnt) x.2 = y at h2 ⊢
  have h3 := cell_ext y.2 (valueL rg) x.1 y.1 base (1 + (a.cnt + b.cnt))
  exact ⟨(h1.1.trans h2.1 (b := base) (c := a.cnt + b.cnt) (by omega) (by omega)).trans h3 (by omega) (by omega), cell_fit (h1.2.on h2.1) h2.2⟩
 | @fst G p nm rg a A B ha iha =>
  intro sc base m hr he hl
  simp only [PT.rgd, rgdL] at hr
  simp only [PT.cnt, cntL, Nat.add_zero] at hl ⊢
  simp only [mW, mOps, if_true, reduceCtorEq, if_false]
  refine begun_fit ?_
  have h1 := iha sc base { m with steps := m.steps + 1 } hr.2.1 he (by simp only; omega)
  generalize mW fuel a sc base { m with steps := m.steps + 1 } = x at h1 ⊢
  have h3 := use_ext x.2 x.1 base a.cnt
  exact ⟨h1.1.trans h3 (by omega) (by omega), (use_fit h1.2).1.on h3⟩
 | @snd G p nm rg a A B ha iha =>
  intro sc base m hr he hl
  simp only [PT.rgd, rgdL] at hr
  simp only [PT.cnt, cntL, Nat.add_zero] at hl ⊢
  simp only [mW, mOps, reduceCtorEq, if_false]
  refine begun_fit ?_
  have h1 := iha sc base { m with steps := m.steps + 1 } hr.2.1 he (by simp only; omega)
  generalize mW fuel a sc base { m with steps := m.steps + 1 } = x at h1 ⊢
  have h3 := use_ext x.2 x.1 base a.cnt
  exact ⟨h1.1.trans h3 (by omega) (by omega), (use_fit h1.2).2.on h3⟩
 | @if_ G p nm rg a b c T ha hb hc iha ihb ihc =>
  intro sc base m hr he hl
  simp only [PT.rgd, rgdL] at hr
  simp only [PT.cnt, cntL, Nat.add_zero] at hl ⊢
  simp only [mW, mIf, if_true, reduceCtorEq, if_false]
  refine begun_fit ?_
  have h1 := iha sc base { m with steps := m.steps + 1 } hr.2.1 he (by simp only; omega)
  generalize mW fuel a sc base { m with steps := m.steps + 1 } = x at h1 ⊢
  have hxl : x.2.named.length = m.named.length := h1.1.len
  have hx := EF.on (m := { m with steps := m.steps + 1 }) he h1.1 (Nat.le_refl _)
  split
  ·have h2 := ihb sc (base + a.cnt) x.2 hr.2.2.1 (hx.up (by omega)) (by omega)
   exact ⟨h1.1.trans h2.1 (by omega) (by omega), h2.2⟩
  ·have h2 := ihc sc (base + a.cnt + b.cnt) x.2 hr.2.2.2.1 (hx.up (by omega)) (by omega)
   exact ⟨h1.1.trans h2.1 (by omega) (by omega), h2.2⟩
 | @two G p k nm rg a b hk ha hb iha ihb =>
  intro sc base m hr he hl
  simp only [PT.rgd, rgdL] at hr
  simp only [PT.cnt, cntL, Nat.add_zero] at hl ⊢
  have e : mW fuel (.node p k nm rg [a, b]) sc base m = mBegun fuel m (fun m => (⟨false, mArith k (mW fuel a sc base m).1.n (mW fuel b sc (base + a.cnt) (mW fuel a sc base m).2).1.n⟩, (mW fuel b sc (base + a.cnt) (mW fuel a sc base m).2).2)) := by
   rcases hk with rfl | rfl | rfl <;> simp only [mW, mOps, reduceCtorEq, if_false]
  rw [e]
  refine begun_fit ?_
  have h1 := iha sc base { m with steps := m.steps + 1 } hr.2.1 he (by simp only; omega)
  generalize mW fuel a sc base { m with steps := m.steps + 1 } = x at h1 ⊢
  have hxl : x.2.named.length = m.named.length := h1.1.len
  have h2 := ihb sc (base + a.cnt) x.2 hr.2.2.1 ((EF.on (m := { m with steps := m.steps + 1 }) he h1.1 (Nat.le_refl _)).up (by omega)) (by omega)
  generalize mW fuel b sc (base + a.cnt) x.2 = y at h2 ⊢
  have f1 := h1.2
  have f2 := h2.2
  simp only [Fits] at f1 f2
  exact ⟨h1.1.trans h2.1 (by omega) (by omega), arith_fit _ _ _ _ f1.2 f2.2⟩
 | @loop G p nm rg a b c T ha hb hc iha ihb ihc =>
  intro sc base m hr he hl
  simp only [PT.rgd, rgdL] at hr
  simp only [PT.cnt, cntL, Nat.add_zero] at hl ⊢
  simp only [mW, mLoop, if_true, reduceCtorEq, if_false]
  refine begun_fit ?_
  have h1 := iha sc base { m with steps := m.steps + 1 } hr.2.1 he (by simp only; omega)
  generalize mW fuel a sc base { m with steps := m.steps + 1 } = x at h1 ⊢
  have hxl : x.2.named.length = m.named.length := h1.1.len
  have hx := EF.on (m := { m with steps := m.steps + 1 }) he h1.1 (Nat.le_refl _)
  have h2 := ihb sc (base + a.cnt) x.2 hr.2.2.1 (hx.up (by omega)) (by omega)
  generalize mW fuel b sc (base + a.cnt) x.2 = y at h2 ⊢
  have hyl : y.2.named.length = m.named.length := h2.1.len.trans hxl
  have hcb := cnt_pos' b
  have hy := hx.on h2.1 (by omega)
  rw [show (((base + a.cnt + b.cnt : Nat) : Int) - 1) = ((base + a.cnt + b.cnt - 1 : Nat) : Int) from by omega]
  have ht := turns_fit (base := base + a.cnt) (c := b.cnt + c.cnt) (j := base + a.cnt + b.cnt - 1) (T := T) (L := m.named.length) (P := fun m => EF m.named m.cells sc G base) (f := fun m => mW fuel c (sc ++ [(nm, ((base + a.cnt + b.cnt - 1 : Nat) : Int))]) (base + a.cnt + b.cnt) m) (by omega)
   (fun m' v hP hv hL => by
    have hsn := EF.snoc (nm := nm) (j := base + a.cnt + b.cnt - 1) (EF.up hP (show base ≤ base + a.cnt + b.cnt - 1 by omega)) (Nat.le_refl _) (by omega) hv
    rw [show base + a.cnt + b.cnt - 1 + 1 = base + a.cnt + b.cnt from by omega] at hsn
    have h3 := ihc _ (base + a.cnt + b.cnt) _ hr.2.2.2.1 hsn (by rw [(name_ext m' (base + a.cnt + b.cnt - 1) v (base + a.cnt + b.cnt - 1) 1 (by omega)).len]; omega)
    exact ⟨(Ext.refl _ (base + a.cnt) 0).trans h3.1 (by omega) (by omega), h3.2⟩)
   (fun m1 m2 hP hE => EF.on hP hE (by omega)) x.1.n.toNat y.1 y.2 hy h2.2 hyl
  exact ⟨(h1.1.trans h2.1 (b := base) (c := a.cnt + b.cnt) (by omega) (by omega)).trans ht.1 (by omega) (by omega), ht.2⟩
 | @new G p nm rg a T ha iha =>
  intro sc base m hr he hl
  simp only [PT.rgd, rgdL] at hr
  simp only [PT.cnt, cntL, Nat.add_zero] at hl ⊢
  simp only [mW, mNew, if_true]
  have h1 := iha sc base (m.opn (valueL rg)) hr.2.1 he (by show _ ≤ m.named.length; omega)
  generalize mW fuel a sc base (m.opn (valueL rg)) = x at h1 ⊢
  have h0 : Ext m (m.opn (valueL rg)) base a.cnt := Ext.same (by rfl) (by rfl) _ _
  have h3 := fin_ext x.2 base a.cnt
  exact ⟨(h0.trans h1.1 (b := base) (c := a.cnt) (by omega) (by omega)).trans h3 (by omega) (by omega), h1.2.on h3⟩
def Rep (cells : List MC) : Vl → MV → Prop
 | .n k, v => v.c = false ∧ v.n = k ∧ k ≤ 9999
 | .p a b, v => v.c = true ∧ ∃ (i : Nat) (c : MC), v.n = i ∧ cells[i]? = some c ∧ Rep cells a c.a ∧ Rep cells b c.b
theorem Rep.mono {cells l : List MC} : ∀ {x : Vl} {v : MV}, Rep cells x v → Rep (cells ++ l) x v
 | .n _, _, h => h
 | .p a b, _, h => by
  simp only [Rep] at h ⊢
  obtain ⟨hc, i, c, hv, hi, ha, hb⟩ := h
  refine ⟨hc, i, c, hv, ?_, Rep.mono ha, Rep.mono hb⟩
  rw [List.getElem?_append_left (List.getElem?_eq_some_iff.1 hi).1]; exact hi
theorem Rep.on {m m' : MM} {b c : Nat} {x : Vl} {v : MV} (h : Rep m.cells x v) (he : Ext m m' b c) : Rep m'.cells x v := by
 obtain ⟨l, hl⟩ := he.cells
 rw [hl]; exact h.mono
theorem Rep.fits {cells : List MC} : ∀ {x : Vl} {T : Ty} {v : MV}, Rep cells x v → x.has T → Fits cells T v
 | .n k, .n, v, h, _ => by simp only [Rep] at h; simp only [Fits]; exact ⟨h.1, by omega, by omega⟩
 | .p a b, .p _ A B, v, h, ht => by
  simp only [Rep] at h
  simp only [Vl.has] at ht
  obtain ⟨hc, i, c, hv, hi, ha, hb⟩ := h
  simp only [Fits]
  exact Or.inr ⟨hc, i, c, hv, hi, ha.fits ht.1, hb.fits ht.2⟩
 | .n _, .p _ _ _, _, _, ht => by simp [Vl.has] at ht
 | .p _ _, .n, _, _, ht => by simp [Vl.has] at ht
theorem fits_rp {cells : List MC} : ∀ {T : Ty} {v : MV}, Fits cells T v → ∃ x, Rep cells x v ∧ x.size ≤ T.size
 | .n, v, h => by simp only [Fits] at h; exact ⟨.n v.n.toNat, by simp only [Rep]; exact ⟨h.1, by omega, by omega⟩, by simp [Vl.size]⟩
 | .p r A B, v, h => by
  simp only [Fits] at h
  rcases h with h | ⟨hc, i, c, hv, hi, ha, hb⟩
  ·exact ⟨.n v.n.toNat, by simp only [Rep]; exact ⟨h.1, by omega, by omega⟩, by simp [Vl.size]⟩
  ·obtain ⟨x, hx, hxs⟩ := fits_rp ha
   obtain ⟨y, hy, hys⟩ := fits_rp hb
   exact ⟨.p x y, by simp only [Rep]; exact ⟨hc, i, c, hv, hi, hx, hy⟩, by simp only [Vl.size, Ty.size]; omega⟩
structure Sm (fuel : Nat) (st : ESt) (m : MM) : Prop where
 e : st.e = 0
 f : m.fault = 0
 s : m.steps = st.steps
 le : st.steps ≤ fuel
 c : m.cells.length = st.cells
 r : m.regs = [⟨-1, 0, st.cells⟩]
 l : m.live = st.cells
 o : m.most = st.cells
 h : ∀ c ∈ m.cells, c.home = 0 ∧ c.ser = 0
def Both (st : ESt) (m : MM) : Prop := st.e = 12 ∧ m.fault = 12
def SimOut (fuel : Nat) (y : Vl × ESt) (x : MV × MM) (T : Ty) : Prop := (Sm fuel y.2 x.2 ∧ Rep x.2.cells y.1 x.1 ∧ y.1.has T) ∨ Both y.2 x.2
def ER (named : List MV) (cells : List MC) (sc : Sc) (env : VEnv) (G : TEnv) (base : Nat) : Prop := ∀ s T, look G s = some T → ∃ (i : Nat) (v : MV), findS sc s = (i : Int) ∧ i < base ∧ named[i]? = some v ∧ Rep cells (lookV env s) v ∧ (lookV env s).has T
theorem ER.ef {named : List MV} {cells : List MC} {sc : Sc} {env : VEnv} {G : TEnv} {base : Nat} (h : ER named cells sc env G base) : EF named cells sc G base := by
 intro s T hl
 obtain ⟨i, v, h1, h2, h3, h4, h5⟩ := h s T hl
 exact ⟨i, v, h1, h2, h3, h4.fits h5⟩
theorem ER.on {m m' : MM} {sc : Sc} {env : VEnv} {G : TEnv} {base b c : Nat} (h : ER m.named m.cells sc env G base) (he : Ext m m' b c) (hb : base ≤ b) : ER m'.named m'.cells sc env G base := by
 intro s T hl
 obtain ⟨i, v, h1, h2, h3, h4, h5⟩ := h s T hl
 exact ⟨i, v, h1, h2, (he.named i (Or.inl (by omega))).trans h3, h4.on he, h5⟩
theorem ER.up {named : List MV} {cells : List MC} {sc : Sc} {env : VEnv} {G : TEnv} {base b : Nat} (h : ER named cells sc env G base) (hb : base ≤ b) : ER named cells sc env G b := by
 intro s T hl
 obtain ⟨i, v, h1, h2, h3, h4, h5⟩ := h s T hl
 exact ⟨i, v, h1, by omega, h3, h4, h5⟩
theorem lookV_snoc (env : VEnv) (nm : List UInt8) (x : Vl) (s : List UInt8) : lookV (env ++ [(nm, x)]) s = if nm = s then x else lookV env s := by
 unfold lookV
 rw [List.reverse_append]
 simp only [List.reverse_cons, List.reverse_nil, List.nil_append, List.singleton_append, List.find?_cons]
 by_cases h : nm = s
 ·simp [h]
 ·have : (nm == s) = false := by rw [beq_eq_false_iff_ne]; exact h
  simp [h, this]
theorem ER.snoc {m : MM} {sc : Sc} {env : VEnv} {G : TEnv} {base j : Nat} {nm : List UInt8} {T : Ty} {x : Vl} {v : MV} (h : ER m.named m.cells sc env G base) (hj : base ≤ j) (hl : j < m.named.length) (hv : Rep m.cells x v) (hx : x.has T) : ER (m.name (j : Int) v).named (m.name (j : Int) v).cells (sc ++ [(nm, (j : Int))]) (env ++ [(nm, x)]) (G ++ [(nm, T)]) (j + 1) := by
 have he := name_ext m j v j 1 (by omega)
 intro s T' hlk
 rw [look_snocF] at hlk
 rw [findS_snoc, lookV_snoc]
 by_cases hs : nm = s
 ·rw [if_pos hs] at hlk ⊢
  rw [if_pos hs]
  cases hlk
  exact ⟨j, v, rfl, by omega, name_at m j v hl, hv.on he, hx⟩
 ·rw [if_neg hs] at hlk ⊢
  rw [if_neg hs]
  obtain ⟨i, u, h1, h2, h3, h4, h5⟩ := h s T' hlk
  exact ⟨i, u, h1, by omega, (he.named i (Or.inl (by omega))).trans h3, h4.on he, h5⟩
theorem Sm.name {fuel : Nat} {st : ESt} {m : MM} (h : Sm fuel st m) (i : Int) (v : MV) : Sm fuel st (m.name i v) := by
 unfold MM.name; split
 ·exact ⟨h.e, h.f, h.s, h.le, h.c, h.r, h.l, h.o, h.h⟩
 ·exact h
theorem stop_keep (m : MM) (f : Nat) (h : m.fault ≠ 0) : m.stop f = m := by unfold MM.stop; rw [if_neg h]
theorem begun_keep (fuel : Nat) (m : MM) (f : MM → MV × MM) (h : m.fault ≠ 0) : mBegun fuel m f = (v0, m) := by
 unfold mBegun
 have : (if fuel ≤ m.steps then m.stop 12 else m) = m := by split <;> simp [stop_keep m 12 h]
 simp only [this]
 rw [if_pos h]
theorem ev_keep (fuel : Nat) (t : PT) (env : VEnv) (st : ESt) (h : st.e ≠ 0) : ev fuel t env st = (.n 0, st) := by
 cases t <;> (simp only [ev, begun]; rw [if_pos h])
inductive NoNew : PT → Prop
 | num {p : Nat} {s : List UInt8} : NoNew (.num p s)
 | name {p : Nat} {s : List UInt8} : NoNew (.name p s)
 | node {p : Nat} {k : Kw} {nm rg : List UInt8} {kids : List PT} (hk : k ≠ .new) (h : ∀ x ∈ kids, NoNew x) : NoNew (.node p k nm rg kids)
theorem mW_keep (fuel : Nat) (t : PT) (hn : NoNew t) (sc : Sc) (base : Nat) (m : MM) (h : m.fault ≠ 0) : mW fuel t sc base m = (v0, m) := by
 cases hn with
 | num => simp only [mW]; exact begun_keep fuel m _ h
 | name => simp only [mW]; exact begun_keep fuel m _ h
 | node hk _ => simp only [mW]; rw [if_neg hk]; exact begun_keep fuel m _ h
theorem both_keep {fuel : Nat} {t : PT} (hn : NoNew t) (sc : Sc) (base : Nat) (env : VEnv) {st : ESt} {m : MM} (h : Both st m) (T : Ty) : SimOut fuel (ev fuel t env st) (mW fuel t sc base m) T := by
 rw [ev_keep fuel t env st (by rw [h.1]; decide), mW_keep fuel t hn sc base m (by rw [h.2]; decide)]
 exact Or.inr h
theorem begun_sim {fuel : Nat} {st : ESt} {m : MM} {f : ESt → Vl × ESt} {g : MM → MV × MM} {T : Ty} (h : Sm fuel st m) (hk : Sm fuel { st with steps := st.steps + 1 } { m with steps := m.steps + 1 } → SimOut fuel (f { st with steps := st.steps + 1 }) (g { m with steps := m.steps + 1 }) T) : SimOut fuel (begun fuel st f) (mBegun fuel m g) T := by
 unfold begun mBegun
 have hs := h.s
 have hle := h.le
 rw [if_neg (fun hn => hn h.e)]
 by_cases hq : st.steps = fuel
 ·rw [if_pos hq]
  have hq' : fuel ≤ m.steps := by omega
  simp only [if_pos hq']
  have e : m.stop 12 = { m with fault := 12 } := by unfold MM.stop; rw [if_pos h.f]
  rw [e]
  exact Or.inr ⟨rfl, rfl⟩
 ·rw [if_neg hq]
  have hq' : ¬ fuel ≤ m.steps := by omega
  simp only [if_neg hq']
  rw [if_neg (fun hn => hn h.f)]
  exact hk ⟨h.e, h.f, by simp only; omega, by simp only; omega, h.c, h.r, h.l, h.o, h.h⟩
theorem turns_sim {fuel : Nat} {T : Ty} {j : Nat} {f : Vl → ESt → Vl × ESt} {g : MM → MV × MM} {P : MM → Prop} (hstep : ∀ st m x v, P m → Sm fuel st m → Rep m.cells x v → x.has T → SimOut fuel (f x st) (g (m.name (j : Int) v)) T ∧ P (g (m.name (j : Int) v)).2) : ∀ (k : Nat) (st : ESt) (m : MM) (x : Vl) (v : MV), P m → Sm fuel st m → Rep m.cells x v → x.has T → SimOut fuel (turns f k x st) (mTurns (j : Int) g k v m) T
 | 0, st, m, x, v, _, hs, hr, ht => Or.inl ⟨hs, hr, ht⟩
 | k + 1, st, m, x, v, hP, hs, hr, ht => by
  simp only [turns, mTurns]
  rw [if_neg (fun hn => hn hs.e), if_neg (fun hn => hn hs.f)]
  obtain ⟨h1, h2⟩ := hstep st m x v hP hs hr ht
  rcases h1 with ⟨a, b, c⟩ | hB
  ·exact turns_sim hstep k _ _ _ _ h2 a b c
  ·cases k with
   | zero => exact Or.inr hB
   | succ k =>
    simp only [turns, mTurns]
    rw [if_pos (by rw [hB.1]; decide), if_pos (by rw [hB.2]; decide)]
    exact Or.inr hB
end Go.Proofs.YtpicaknklgccoabGreatDoor
namespace Go.Proofs.YtpicaknklgccoabGreatDoor
open Go.Lib (decDigits)
def EnvHas (env : VEnv) (G : TEnv) : Prop := ∀ s T, look G s = some T → (lookV env s).has T
theorem EnvHas.snoc {env : VEnv} {G : TEnv} {nm : List UInt8} {v : Vl} {T : Ty} (h : EnvHas env G) (hv : v.has T) : EnvHas (env ++ [(nm, v)]) (G ++ [(nm, T)]) := by
 intro s U hs
 rw [look_snoc] at hs
 rw [lookV_snoc]
 by_cases e : nm = s
 ·rw [if_pos (by simpa using e)] at hs; rw [if_pos e]; cases hs; exact hv
 ·rw [if_neg (by simpa using e)] at hs; rw [if_neg e]; exact h s U hs
def Res (T : Ty) (st : ESt) (r : Vl × ESt) : Prop := (r.2.e = 0 → st.e = 0 ∧ r.1.has T) ∧ (r.2.e ≠ 0 → r.1 = .n 0)
theorem begun_res {fuel : Nat} {st : ESt} {T : Ty} {f : ESt → Vl × ESt} (h : ∀ st' : ESt, st'.e = 0 → st.e = 0 → Res T st' (f st')) : Res T st (begun fuel st f) := by
 unfold begun
 split
 ·rename_i he; exact ⟨fun e => absurd e he, fun _ => rfl⟩
 ·rename_i he
  have h0 : st.e = 0 := by simpa using he
  split
  ·exact ⟨fun e => by simp at e, fun _ => rfl⟩
  ·have := h { st with steps := st.steps + 1 } h0 h0
   exact ⟨fun e => ⟨h0, (this.1 e).2⟩, this.2⟩
theorem turns_res {T : Ty} {f : Vl → ESt → Vl × ESt} (hf : ∀ v st, (st.e = 0 → v.has T) → Res T st (f v st)) : ∀ (k : Nat) (v : Vl) (st : ESt), (st.e = 0 → v.has T) → (st.e ≠ 0 → v = .n 0) → Res T st (turns f k v st)
 | 0, v, st, h1, h2 => ⟨fun e => ⟨e, h1 e⟩, h2⟩
 | k + 1, v, st, h1, h2 => by
  unfold turns
  split
  ·rename_i he; exact ⟨fun e => absurd e he, h2⟩
  ·rename_i he
   have h0 : st.e = 0 := by simpa using he
   have hx := hf v st h1
   have := turns_res hf k (f v st).1 (f v st).2 (fun e => (hx.1 e).2) hx.2
   exact ⟨fun e => ⟨h0, (this.1 e).2⟩, this.2⟩
theorem has_num {v : Vl} (h : v.has .n) : ∃ k, v = .n k ∧ k ≤ 9999 := by
 cases v with
 | n k => exact ⟨k, rfl, h⟩
 | p a b => simp [Vl.has] at h
theorem NoNew.kid {p : Nat} {k : Kw} {nm rg : List UInt8} {kids : List PT} (h : NoNew (.node p k nm rg kids)) : ∀ x ∈ kids, NoNew x := by cases h with | node _ h => exact h
theorem NoNew.kw {p : Nat} {k : Kw} {nm rg : List UInt8} {kids : List PT} (h : NoNew (.node p k nm rg kids)) : k ≠ .new := by cases h with | node h _ => exact h
def partsV (fuel : Nat) (k : Kw) (kids : List PT) (env : VEnv) (st : ESt) : Vl × ESt :=
 if (evKids fuel kids env st).2.e ≠ 0 then (.n 0, (evKids fuel kids env st).2) else madeV k (evKids fuel kids env st).1 (evKids fuel kids env st).2
theorem partsV1 (fuel : Nat) (k : Kw) (x : PT) (env : VEnv) (st : ESt) : partsV fuel k [x] env st = if (ev fuel x env st).2.e ≠ 0 then (.n 0, (ev fuel x env st).2) else madeV k [(ev fuel x env st).1] (ev fuel x env st).2 := by
 unfold partsV; simp only [evKids]; rfl
theorem partsV2 (fuel : Nat) (k : Kw) (x y : PT) (env : VEnv) (st : ESt) : partsV fuel k [x, y] env st = if (ev fuel y env (ev fuel x env st).2).2.e ≠ 0 then (.n 0, (ev fuel y env (ev fuel x env st).2).2) else madeV k [(ev fuel x env st).1, (ev fuel y env (ev fuel x env st).2).1] (ev fuel y env (ev fuel x env st).2).2 := by
 unfold partsV; simp only [evKids]; rfl
theorem ev_parts (fuel p : Nat) (k : Kw) (nm rg : List UInt8) (kids : List PT) (env : VEnv) (st : ESt) (h1 : k ≠ .let_) (h2 : k ≠ .if_) (h3 : k ≠ .loop) : ev fuel (.node p k nm rg kids) env st = begun fuel st (fun st => partsV fuel k kids env st) := by
 conv => lhs; unfold ev
 simp only [if_neg h1, if_neg h2, if_neg h3]
 rfl
theorem ev_res (fuel : Nat) {G : TEnv} {t : PT} {T : Ty} (h : WT G t T) : ∀ (env : VEnv) (st : ESt), t.tame → NoNew t → (st.e = 0 → EnvHas env G) → Res T st (ev fuel t env st) := by
 induction h with
 | num =>
  intro env st ht hn he
  simp only [PT.tame] at ht
  unfold ev
  exact begun_res (fun st' h0 _ => ⟨fun _ => ⟨h0, by simp only [Vl.has]; omega⟩, fun e => absurd h0 e⟩)
 | name hl =>
  intro env st ht hn he
  unfold ev
  exact begun_res (fun st' h0 hs => ⟨fun _ => ⟨h0, he hs _ _ hl⟩, fun e => absurd h0 e⟩)
 | @let_ G p nm rg a b A B ha hb iha ihb =>
  intro env st ht hn he
  simp only [PT.tame, tameL] at ht
  unfold ev
  refine begun_res (fun st' h0 hs => ?_)
  simp only [if_pos, evLet]
  have x := iha env st' ht.2.1 (hn.kid _ (by simp)) (fun _ => he hs)
  have y := ihb (env ++ [(nm, (ev fuel a env st').1)]) (ev fuel a env st').2 ht.2.2.1 (hn.kid _ (by simp)) (fun e => (he (by have := (x.1 e).1; exact hs)).snoc (x.1 e).2)
  exact ⟨fun e => ⟨h0, (y.1 e).2⟩, y.2⟩
 | @pair G p nm rg a b A B ha hb hsz iha ihb =>
  intro env st ht hn he
  simp only [PT.tame, tameL] at ht
  rw [ev_parts _ _ _ _ _ _ _ _ (by decide) (by decide) (by decide)]
  refine begun_res (fun st' h0 hs => ?_)
  have x := iha env st' ht.2.1 (hn.kid _ (by simp)) (fun _ => he hs)
  have y := ihb env (ev fuel a env st').2 ht.2.2.1 (hn.kid _ (by simp)) (fun _ => he hs)
  rw [partsV2]
  split
  ·rename_i e1; exact ⟨fun e => absurd e e1, fun _ => rfl⟩
  ·rename_i e1
   have e0 : (ev fuel b env (ev fuel a env st').2).2.e = 0 := by simpa using e1
   have y0 := y.1 e0
   refine ⟨fun _ => ⟨h0, ?_⟩, fun e => absurd e0 e⟩
   simp only [madeV, Vl.has]
   exact ⟨(x.1 y0.1).2, y0.2⟩
 | @fst G p nm rg a A B ha iha =>
  intro env st ht hn he
  simp only [PT.tame, tameL] at ht
  rw [ev_parts _ _ _ _ _ _ _ _ (by decide) (by decide) (by decide)]
  refine begun_res (fun st' h0 hs => ?_)
  have x := iha env st' ht.2.1 (hn.kid _ (by simp)) (fun _ => he hs)
  rw [partsV1]
  split
  ·rename_i e1; exact ⟨fun e => absurd e e1, fun _ => rfl⟩
  ·rename_i e1
   have e0 : (ev fuel a env st').2.e = 0 := by simpa using e1
   have x0 := (x.1 e0).2
   refine ⟨fun _ => ⟨h0, ?_⟩, fun e => absurd e0 e⟩
   simp only [madeV]
   revert x0
   generalize (ev fuel a env st').1 = v
   intro x0
   cases v with
   | n k => simp [Vl.has] at x0
   | p u v => simp only [Vl.has] at x0; exact x0.1
 | @snd G p nm rg a A B ha iha =>
  intro env st ht hn he
  simp only [PT.tame, tameL] at ht
  rw [ev_parts _ _ _ _ _ _ _ _ (by decide) (by decide) (by decide)]
  refine begun_res (fun st' h0 hs => ?_)
  have x := iha env st' ht.2.1 (hn.kid _ (by simp)) (fun _ => he hs)
  rw [partsV1]
  split
  ·rename_i e1; exact ⟨fun e => absurd e e1, fun _ => rfl⟩
  ·rename_i e1
   have e0 : (ev fuel a env st').2.e = 0 := by simpa using e1
   have x0 := (x.1 e0).2
   refine ⟨fun _ => ⟨h0, ?_⟩, fun e => absurd e0 e⟩
   simp only [madeV]
   revert x0
   generalize (ev fuel a env st').1 = v
   intro x0
   cases v with
   | n k => simp [Vl.has] at x0
   | p u v => simp only [Vl.has] at x0; exact x0.2
 | @if_ G p nm rg a b c T ha hb hc iha ihb ihc =>
  intro env st ht hn he
  simp only [PT.tame, tameL] at ht
  unfold ev
  refine begun_res (fun st' h0 hs => ?_)
  simp only [reduceCtorEq, if_false, if_true, evIf]
  have x := iha env st' ht.2.1 (hn.kid _ (by simp)) (fun _ => he hs)
  split
  ·have y := ihb env (ev fuel a env st').2 ht.2.2.1 (hn.kid _ (by simp)) (fun _ => he hs)
   exact ⟨fun e => ⟨h0, (y.1 e).2⟩, y.2⟩
  ·have y := ihc env (ev fuel a env st').2 ht.2.2.2.1 (hn.kid _ (by simp)) (fun _ => he hs)
   exact ⟨fun e => ⟨h0, (y.1 e).2⟩, y.2⟩
 | @two G p k nm rg a b hk ha hb iha ihb =>
  intro env st ht hn he
  simp only [PT.tame, tameL] at ht
  have k1 : k ≠ .let_ := by rcases hk with rfl | rfl | rfl <;> decide
  have k2 : k ≠ .if_ := by rcases hk with rfl | rfl | rfl <;> decide
  have k3 : k ≠ .loop := by rcases hk with rfl | rfl | rfl <;> decide
  rw [ev_parts _ _ _ _ _ _ _ _ k1 k2 k3]
  refine begun_res (fun st' h0 hs => ?_)
  rw [partsV2]
  split
  ·rename_i e1; exact ⟨fun e => absurd e e1, fun _ => rfl⟩
  ·rename_i e1
   have e0 : (ev fuel b env (ev fuel a env st').2).2.e = 0 := by simpa using e1
   rcases hk with rfl | rfl | rfl
   all_goals
    refine ⟨fun _ => ⟨h0, ?_⟩, fun e => absurd e0 e⟩
    simp only [madeV, Vl.has]
    first | omega | (split <;> omega)
 | @loop G p nm rg a b c T ha hb hc iha ihb ihc =>
  intro env st ht hn he
  simp only [PT.tame, tameL] at ht
  unfold ev
  refine begun_res (fun st' h0 hs => ?_)
  simp only [reduceCtorEq, if_false, if_true, evLoop]
  have y := ihb env (ev fuel a env st').2 ht.2.2.1 (hn.kid _ (by simp)) (fun _ => he hs)
  have z := turns_res (f := fun v st => ev fuel c (env ++ [(nm, v)]) st) (fun v st hv => ihc (env ++ [(nm, v)]) st ht.2.2.2.1 (hn.kid _ (by simp)) (fun e => (he hs).snoc (hv e))) (ev fuel a env st').1.num (ev fuel b env (ev fuel a env st').2).1 (ev fuel b env (ev fuel a env st').2).2 (fun e => (y.1 e).2) y.2
  exact ⟨fun e => ⟨h0, (z.1 e).2⟩, z.2⟩
 | new ha iha =>
  intro env st ht hn he
  exact absurd rfl hn.kw
def Mono (fuel : Nat) (st st' : ESt) : Prop := st.steps ≤ fuel → st'.steps ≤ fuel ∧ st'.cells + st.steps ≤ st.cells + st'.steps ∧ st.steps ≤ st'.steps
theorem Mono.refl (fuel : Nat) (st : ESt) : Mono fuel st st := fun h => ⟨h, by omega, by omega⟩
theorem Mono.trans {fuel : Nat} {a b c : ESt} (h : Mono fuel a b) (h' : Mono fuel b c) : Mono fuel a c := fun h0 => by
 have h1 := h h0
 have h2 := h' h1.1
 exact ⟨h2.1, by omega, by omega⟩
theorem begun_mono {fuel : Nat} {st : ESt} {f : ESt → Vl × ESt} (h : ∀ st' : ESt, st'.steps = st.steps + 1 → st'.cells = st.cells → st'.steps ≤ fuel → (f st').2.steps ≤ fuel ∧ (f st').2.cells + st'.steps ≤ st'.cells + (f st').2.steps + 1 ∧ st'.steps ≤ (f st').2.steps) : Mono fuel st (begun fuel st f).2 := by
 unfold begun
 split
 ·exact Mono.refl _ _
 ·split
  ·exact fun h => ⟨h, by simp, by simp⟩
  ·rename_i hne
   intro h0
   have := h { st with steps := st.steps + 1 } rfl rfl (by simp only; omega)
   simp only at this ⊢
   omega
theorem turns_mono {fuel : Nat} {f : Vl → ESt → Vl × ESt} (hf : ∀ v st, Mono fuel st (f v st).2) : ∀ (k : Nat) (v : Vl) (st : ESt), Mono fuel st (turns f k v st).2
 | 0, _, st => Mono.refl _ _
 | k + 1, v, st => by
  unfold turns
  split
  ·exact Mono.refl _ _
  ·exact (hf v st).trans (turns_mono hf k _ _)
theorem made_mono (k : Kw) (vs : List Vl) (st : ESt) : (madeV k vs st).2.steps = st.steps ∧ (madeV k vs st).2.cells ≤ st.cells + 1 := by
 unfold madeV
 split <;> simp
mutual
theorem ev_mono (fuel : Nat) : ∀ (t : PT) (env : VEnv) (st : ESt), Mono fuel st (ev fuel t env st).2
 | .num _ s, env, st => by
  unfold ev; exact begun_mono (fun st' _ _ h => ⟨h, by simp, Nat.le_refl _⟩)
 | .name _ s, env, st => by
  unfold ev; exact begun_mono (fun st' _ _ h => ⟨h, by simp, Nat.le_refl _⟩)
 | .node _ k nm _ kids, env, st => by
  unfold ev
  refine begun_mono (fun st' _ _ h => ?_)
  split
  ·have := evLet_mono fuel nm kids env st' h; omega
  ·split
   ·have := evIf_mono fuel kids env st' h; omega
   ·split
    ·have := evLoop_mono fuel nm kids env st' h; omega
    ·have := evKids_mono fuel kids env st' h
     simp only
     split
     ·simp only; omega
     ·have := made_mono k (evKids fuel kids env st').1 (evKids fuel kids env st').2
      omega
theorem evKids_mono (fuel : Nat) : ∀ (ts : List PT) (env : VEnv) (st : ESt), Mono fuel st (evKids fuel ts env st).2
 | [], _, st => by simp only [evKids]; exact Mono.refl _ _
 | a :: r, env, st => by simp only [evKids]; exact (ev_mono fuel a env st).trans (evKids_mono fuel r env _)
theorem evLet_mono (fuel : Nat) (nm : List UInt8) : ∀ (ts : List PT) (env : VEnv) (st : ESt), Mono fuel st (evLet fuel nm ts env st).2
 | [a, b], env, st => by simp only [evLet]; exact (ev_mono fuel a env st).trans (ev_mono fuel b _ _)
 | [], _, st => by simp only [evLet]; exact Mono.refl _ _
 | [_], _, st => by simp only [evLet]; exact Mono.refl _ _
 | _ :: _ :: _ :: _, _, st => by simp only [evLet]; exact Mono.refl _ _
theorem evIf_mono (fuel : Nat) : ∀ (ts : List PT) (env : VEnv) (st : ESt), Mono fuel st (evIf fuel ts env st).2
 | [a, b, c], env, st => by
  simp only [evIf]
  split
  ·exact (ev_mono fuel a env st).trans (ev_mono fuel b _ _)
  ·exact (ev_mono fuel a env st).trans (ev_mono fuel c _ _)
 | [], _, st => by simp only [evIf]; exact Mono.refl _ _
 | [_], _, st => by simp only [evIf]; exact Mono.refl _ _
 | [_, _], _, st => by simp only [evIf]; exact Mono.refl _ _
 | _ :: _ :: _ :: _ :: _, _, st => by simp only [evIf]; exact Mono.refl _ _
theorem evLoop_mono (fuel : Nat) (nm : List UInt8) : ∀ (ts : List PT) (env : VEnv) (st : ESt), Mono fuel st (evLoop fuel nm ts env st).2
 | [a, b, c], env, st => by
  simp only [evLoop]
  exact ((ev_mono fuel a env st).trans (ev_mono fuel b _ _)).trans (turns_mono (fun v st => ev_mono fuel c _ st) _ _ _)
 | [], _, st => by simp only [evLoop]; exact Mono.refl _ _
 | [_], _, st => by simp only [evLoop]; exact Mono.refl _ _
 | [_, _], _, st => by simp only [evLoop]; exact Mono.refl _ _
 | _ :: _ :: _ :: _ :: _, _, st => by simp only [evLoop]; exact Mono.refl _ _
end
end Go.Proofs.YtpicaknklgccoabGreatDoor
